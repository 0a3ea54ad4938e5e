/- THE DOCUMENT'S ANSWER: step. -/
import Derived.Test.YtiopfihjmkfdmaaGreatDoorGFRd
import Derived.Test.YtiopfihjmkfdmaaGreatDoorGRunV
namespace Go.Proofs.YtiopfihjmkfdmaaGreatDoor
open Go.RowKit
set_option maxRecDepth 100000
set_option maxHeartbeats 4000000

theorem meet_succ {p : UInt8 → Bool} {s : ByteArray} {k j : Nat} (h : FirstMeet p (s.data.toList.drop k) j) (hk : k + j < s.size) (hp : p s[k + j] = true) : FirstMeet p (s.data.toList.drop k) (j + 1) := by
  intro q c hq hc
  by_cases e : q = j
  · subst e
    rw [List.getElem?_drop, byte_at s (k + q) hk] at hc
    cases hc; exact hp
  · exact h q c (by omega) hc

theorem meet_stop {p : UInt8 → Bool} {s : ByteArray} {k j : Nat} (h : FirstMeet p (s.data.toList.drop k) j) (hkj : k + j ≤ s.size) (hp : ∀ hk : k + j < s.size, p s[k + j] = false) : Sp.headRun p (s.data.toList.drop k) = j := by
  refine headRun_of p _ j ?_ h (fun c hc => ?_)
  · rw [List.length_drop]; have : s.data.toList.length = s.size := by simp
    omega
  · rw [List.getElem?_drop] at hc
    by_cases hk : k + j < s.size
    · rw [byte_at s _ hk] at hc
      cases hc; exact hp hk
    · rw [byte_none s _ hk] at hc; cases hc

/-- the cells as step leaves them -/
theorem fr_stored {w w1 : World} {b pb : Nat} {s : ByteArray} {i a o er : Int} {t : ByteArray} (hb : w.heap[b]? = some (.cells (frCells s i a t pb o er) 174)) (h1 : Below w.heap.size w w1) (i' a' : Int) (t' : ByteArray) :
    (((w1.setCell ⟨b, 2, none⟩ (.int .i64 a')).setCell ⟨b, 3, none⟩ (.string t')).setCell ⟨b, 1, none⟩ (.int .i64 i')).heap[b]? = some (.cells (frCells s i' a' t' pb o er) 174) ∧ Ext0 b w (((w1.setCell ⟨b, 2, none⟩ (.int .i64 a')).setCell ⟨b, 3, none⟩ (.string t')).setCell ⟨b, 1, none⟩ (.int .i64 i')) := by
  have hb1 : w1.heap[b]? = some (.cells (frCells s i a t pb o er) 174) := by rw [h1.block _ (heap_lt hb)]; exact hb
  refine ⟨?_, (((Ext0.of_below h1).setCell (p := ⟨b, 2, none⟩) (.inl rfl) _).setCell (p := ⟨b, 3, none⟩) (.inl rfl) _).setCell (p := ⟨b, 1, none⟩) (.inl rfl) _⟩
  rw [heap_setCell_at (heap_setCell_at (heap_setCell_at hb1 2 (.int .i64 a')) 3 (.string t')) 1 (.int .i64 i')]
  rfl

/-- the reader's cells, as the walk asks for them -/
theorem fr_facts {w w1 : World} {b pb : Nat} {s : ByteArray} {i a o er : Int} {t : ByteArray} (hb : w.heap[b]? = some (.cells (frCells s i a t pb o er) 174)) (h1 : Below w.heap.size w w1) :
    w1.cell? ⟨b, 0, none⟩ = some (.string s) ∧ w1.cell? ⟨b, 1, none⟩ = some (.int .i64 i) ∧ w1.cell? ⟨b, 2, none⟩ = some (.int .i64 a) ∧ w1.cell? ⟨b, 3, none⟩ = some (.string t) ∧ w1.frozen? ⟨b, 1, none⟩ = false ∧ w1.frozen? ⟨b, 2, none⟩ = false ∧ w1.frozen? ⟨b, 3, none⟩ = false := by
  have hb1 : w1.heap[b]? = some (.cells (frCells s i a t pb o er) 174) := by rw [h1.block _ (heap_lt hb)]; exact hb
  exact ⟨cell_of hb1 0 rfl, cell_of hb1 1 rfl, cell_of hb1 2 rfl, cell_of hb1 3 rfl, frozen_of hb1 1, frozen_of hb1 2, frozen_of hb1 3⟩

/-- the end of a step: the token's length is known -/
theorem fstep_end {w w1 : World} {b pb : Nat} {s : ByteArray} {i at_ o er : Int} {t : ByteArray} {a k j : Nat} (hb : w.heap[b]? = some (.cells (frCells s i at_ t pb o er) 174)) (h1 : Below w.heap.size w w1) (hk : k ≤ s.size) (hst : Sp.skip (s.data.toList.drop a) = s.data.toList.drop k) (hj : Sp.tokLen (s.data.toList.drop k) = j) {ii : Int} {x : ByteArray} (hi : ii = (k : Int) + j) (hx : x = s.extract k (k + j)) :
    (((w1.setCell ⟨b, 2, none⟩ (.int .i64 (k : Int))).setCell ⟨b, 3, none⟩ (.string x)).setCell ⟨b, 1, none⟩ (.int .i64 ii)).heap[b]? = some (.cells (frCells s ((s.size - (Sp.skip (s.data.toList.drop a)).length + Sp.tokLen (Sp.skip (s.data.toList.drop a)) : Nat) : Int) ((s.size - (Sp.skip (s.data.toList.drop a)).length : Nat) : Int) ⟨(Sp.tok (Sp.skip (s.data.toList.drop a))).toArray⟩ pb o er) 174) ∧ Ext0 b w (((w1.setCell ⟨b, 2, none⟩ (.int .i64 (k : Int))).setCell ⟨b, 3, none⟩ (.string x)).setCell ⟨b, 1, none⟩ (.int .i64 ii)) := by
  have e := tokVal_of s k hk
  unfold tokVal at e
  have hl : s.size - (s.data.toList.drop k).length = k := by
    rw [List.length_drop]; have : s.data.toList.length = s.size := by simp
    omega
  have e3 : (⟨(Sp.tok (s.data.toList.drop k)).toArray⟩ : ByteArray) = s.extract k (k + j) := by
    rw [hj] at e
    have := congrArg (fun x : Array Value => x[2]?) e
    simpa using this
  rw [hst, hl, hj, e3]
  have h2 := fr_stored hb h1 ii (k : Int) x
  subst hx
  rw [hi] at h2 ⊢
  exact h2

set_option maxHeartbeats 8000000 in
theorem fstep_calls {w : World} {b pb : Nat} {s : ByteArray} {at_ o er : Int} {t : ByteArray} (a : Nat) (hb : w.heap[b]? = some (.cells (frCells s (a : Int) at_ t pb o er) 174)) (ha : a ≤ s.size) (hs : s.size ≤ 400) :
    Calls Tryz.prog 65 #[.pointer (some ⟨b, 0, none⟩)] w fun e w' => e = .returned (.tuple #[]) ∧
      w'.heap[b]? = some (.cells (frCells s ((s.size - (Sp.skip (s.data.toList.drop a)).length + Sp.tokLen (Sp.skip (s.data.toList.drop a)) : Nat) : Int) ((s.size - (Sp.skip (s.data.toList.drop a)).length : Nat) : Int) ⟨(Sp.tok (Sp.skip (s.data.toList.drop a))).toArray⟩ pb o er) 174) ∧ Ext0 b w w' := by
  have c1 := cell_of hb 1 (v := .int .i64 (a : Int)) rfl
  have HB : Hid (_ = _) := hb
  clear hb
  go_enter Tryz.func65, Tryz.ntmps65
  go_wp2_with fail
  clear c1
  go_loopw [2] (fun n wr => ∃ k : Nat, k ≤ s.size ∧ Hid (Blanks s.data.toList a k) ∧ n = .int .i64 k ∧ Hid (Below w.heap.size w wr)) (fun n _ => s.size - (intOf n).toNat)
  case atStart => exact ⟨a, ha, rfl, rfl, Below.refl _ _⟩
  case round =>
    obtain ⟨k, hk, hm, rfl, hB⟩ := hrel
    obtain ⟨c0, c1, c2, c3, f1, f2, f3⟩ := fr_facts HB.out hB.out
    by_cases hlt : k < s.size
    · have hki : (k : Int) < (s.size : Int) := by omega
      by_cases h32 : (s[k].toNat : Int) = 32
      · have hm1 : Hid (Blanks s.data.toList a (k + 1)) := hm.out.succ hlt ((blank_iff _).2 (.inl h32))
        go_wp2_with fail
        exact ⟨⟨k + 1, by omega, hm1, by go_num, hB⟩, by simp [intOf]; omega⟩
      · have h32b : ((s[k].toNat : Int) == 32) = false := by simpa using h32
        by_cases h10 : (s[k].toNat : Int) = 10
        · have hm1 : Hid (Blanks s.data.toList a (k + 1)) := hm.out.succ hlt ((blank_iff _).2 (.inr h10))
          go_wp2_with fail
          exact ⟨⟨k + 1, by omega, hm1, by go_num, hB⟩, by simp [intOf]; omega⟩
        · have h10b : ((s[k].toNat : Int) == 10) = false := by simpa using h10
          have hst : Hid (Sp.skip (s.data.toList.drop a) = s.data.toList.drop k) := hm.out.stop (fun _ => by
            cases hb : Sp.isBlank s[k]
            · rfl
            · exact absurd ((blank_iff _).1 hb) (fun h => h.elim h32 h10))
          clear hm
          have htl : Hid (Sp.tokLen (s.data.toList.drop k) = if Sp.isLet s[k] then Sp.headRun Sp.isLet (s.data.toList.drop k) else if Sp.isDig s[k] then Sp.headRun Sp.isDig (s.data.toList.drop k) else Sp.signLen (s.data.toList.drop k)) := by
            unfold Hid; rw [drop_cons s k hlt, Sp.tokLen_cons]
          by_cases hL : Sp.isLet s[k] = true
          · go_wp2_with fail
            refine (fLetter_calls _ _).mono ?_
            rintro e w' ⟨rfl, rfl⟩
            rw [hL]
            go_wp2_with fail
            go_loopw [3] (fun n wx => ∃ j : Nat, k + j ≤ s.size ∧ Hid (FirstMeet Sp.isLet (s.data.toList.drop k) j) ∧ n = .int .i64 ((k + j : Nat) : Int) ∧ wx = w') (fun n _ => s.size - (intOf n).toNat)
            case atStart => exact ⟨0, by omega, (fun q c hq _ => absurd hq (Nat.not_lt_zero _)), rfl, rfl⟩
            case round =>
              obtain ⟨j, hj, hM, rfl, rfl⟩ := hrel
              by_cases hjl : k + j < s.size
              · have hji : ((k + j : Nat) : Int) < (s.size : Int) := by omega
                by_cases hJ : Sp.isLet s[k + j] = true
                · have hM1 : Hid (FirstMeet Sp.isLet (s.data.toList.drop k) (j + 1)) := meet_succ hM.out hjl hJ
                  go_wp2_with fail
                  refine (fLetter_calls _ _).mono ?_
                  rintro e w' ⟨rfl, rfl⟩
                  rw [hJ]
                  go_wp2_with fail
                  exact ⟨⟨j + 1, by omega, hM1, by go_num, trivial⟩, by simp [intOf]; omega⟩
                · have hJ0 : Sp.isLet s[k + j] = false := by simpa using hJ
                  have hN : Hid (Sp.tokLen (s.data.toList.drop k) = j) := by unfold Hid; rw [htl.out, if_pos hL]; exact meet_stop hM.out hj (fun _ => hJ0)
                  go_wp2_with fail
                  refine (fLetter_calls _ _).mono ?_
                  rintro e w' ⟨rfl, rfl⟩
                  rw [hJ0]
                  go_wp2_with fail
                  go_end0
                  exact ⟨rfl, fstep_end HB.out hB.out hk hst.out hN.out (by omega) (by first | rfl | simp)⟩
              · have hji : ¬ ((k + j : Nat) : Int) < (s.size : Int) := by omega
                have hN : Hid (Sp.tokLen (s.data.toList.drop k) = j) := by unfold Hid; rw [htl.out, if_pos hL]; exact meet_stop hM.out hj (fun h => absurd h hjl)
                go_wp2_with fail
                go_end0
                exact ⟨rfl, fstep_end HB.out hB.out hk hst.out hN.out (by omega) (by first | rfl | simp)⟩
          · have hL0 : Sp.isLet s[k] = false := by simpa using hL
            by_cases hD : Sp.isDig s[k] = true
            · go_wp2_with fail
              refine (fLetter_calls _ _).mono ?_
              rintro e w' ⟨rfl, rfl⟩
              rw [hL0]
              go_wp2_with fail
              refine (fDigit_calls _ _).mono ?_
              rintro e w' ⟨rfl, rfl⟩
              rw [hD]
              go_wp2_with fail
              go_loopw [3] (fun n wx => ∃ j : Nat, k + j ≤ s.size ∧ Hid (FirstMeet Sp.isDig (s.data.toList.drop k) j) ∧ n = .int .i64 ((k + j : Nat) : Int) ∧ wx = w') (fun n _ => s.size - (intOf n).toNat)
              case atStart => exact ⟨0, by omega, (fun q c hq _ => absurd hq (Nat.not_lt_zero _)), rfl, rfl⟩
              case round =>
                obtain ⟨j, hj, hM, rfl, rfl⟩ := hrel
                by_cases hjl : k + j < s.size
                · have hji : ((k + j : Nat) : Int) < (s.size : Int) := by omega
                  by_cases hJ : Sp.isDig s[k + j] = true
                  · have hM1 : Hid (FirstMeet Sp.isDig (s.data.toList.drop k) (j + 1)) := meet_succ hM.out hjl hJ
                    go_wp2_with fail
                    refine (fDigit_calls _ _).mono ?_
                    rintro e w' ⟨rfl, rfl⟩
                    rw [hJ]
                    go_wp2_with fail
                    exact ⟨⟨j + 1, by omega, hM1, by go_num, trivial⟩, by simp [intOf]; omega⟩
                  · have hJ0 : Sp.isDig s[k + j] = false := by simpa using hJ
                    have hN : Hid (Sp.tokLen (s.data.toList.drop k) = j) := by unfold Hid; rw [htl.out, if_neg hL, if_pos hD]; exact meet_stop hM.out hj (fun _ => hJ0)
                    go_wp2_with fail
                    refine (fDigit_calls _ _).mono ?_
                    rintro e w' ⟨rfl, rfl⟩
                    rw [hJ0]
                    go_wp2_with fail
                    go_end0
                    exact ⟨rfl, fstep_end HB.out hB.out hk hst.out hN.out (by omega) (by first | rfl | simp)⟩
                · have hji : ¬ ((k + j : Nat) : Int) < (s.size : Int) := by omega
                  have hN : Hid (Sp.tokLen (s.data.toList.drop k) = j) := by unfold Hid; rw [htl.out, if_neg hL, if_pos hD]; exact meet_stop hM.out hj (fun h => absurd h hjl)
                  go_wp2_with fail
                  go_end0
                  exact ⟨rfl, fstep_end HB.out hB.out hk hst.out hN.out (by omega) (by first | rfl | simp)⟩
            · have hD0 : Sp.isDig s[k] = false := by simpa using hD
              have hN : Hid (Sp.tokLen (s.data.toList.drop k) = Sp.signLen (s.data.toList.drop k)) := by unfold Hid; rw [htl.out, if_neg hL, if_neg hD]
              have hroom : Hid (k + Sp.signLen (s.data.toList.drop k) ≤ s.size) := by have := tokLen_room s k hk; unfold Hid; rw [hN.out] at this; exact this
              go_wp2_with fail
              refine (fLetter_calls _ _).mono ?_
              rintro e w' ⟨rfl, rfl⟩
              rw [hL0]
              go_wp2_with fail
              refine (fDigit_calls _ _).mono ?_
              rintro e w' ⟨rfl, rfl⟩
              rw [hD0]
              go_wp2_with fail
              refine (fSign_calls s k hlt hs _).mono ?_
              rintro e w1 ⟨rfl, hB1⟩
              have hB2 : Hid (Below w.heap.size w w1) := hB.out.trans (hB1.mono hB.out.size)
              obtain ⟨c0', c1', c2', c3', f1', f2', f3'⟩ := fr_facts HB.out hB2.out
              generalize Sp.signLen (s.data.toList.drop k) = j at *
              have hr := hroom.out
              clear c0 c1 c2 c3 f1 f2 f3 hB1
              go_wp2_with fail
              go_end0
              exact ⟨rfl, fstep_end HB.out hB2.out hk hst.out hN.out (by omega) (by first | rfl | simp)⟩
    · have hki : ¬ (k : Int) < (s.size : Int) := by omega
      have hst : Hid (Sp.skip (s.data.toList.drop a) = s.data.toList.drop k) := hm.out.stop (fun h => absurd h hlt)
      have hN : Hid (Sp.tokLen (s.data.toList.drop k) = 0) := by unfold Hid; rw [List.drop_of_length_le (by simp; omega)]; rfl
      clear hm
      go_wp2_with fail
      go_end0
      exact ⟨rfl, fstep_end HB.out hB.out hk hst.out hN.out (by omega) (by first | rfl | simp)⟩

end Go.Proofs.YtiopfihjmkfdmaaGreatDoor

/- THE DOCUMENT'S ANSWER: wrong, take, open, shut. -/
namespace Go.Proofs.YtiopfihjmkfdmaaGreatDoor
open Go.RowKit
set_option maxRecDepth 100000
set_option maxHeartbeats 2000000

theorem FPAt.ext {base b pb : Nat} {p : FP} {w w' : World} (h : FPAt base pb p w) (x : Ext0 b w w') (h1 : b ≠ pb) (h2 : p.nv.ownBlock ≠ some b) (h3 : p.qv.ownBlock ≠ some b) : FPAt base pb p w' :=
  ⟨by rw [x.block _ (heap_lt h.blk) (Ne.symm h1)]; exact h.blk, ownsRow9_keep h.rowN (fun g hg => x.block g (ownsRow9_lt h.rowN g hg).2.1 (fun e => h2 (by rw [← e]; exact hg))), ownsRow9_keep h.rowQ (fun g hg => x.block g (ownsRow9_lt h.rowQ g hg).2.1 (fun e => h3 (by rw [← e]; exact hg))), h.ge, h.n5, h.q5⟩

theorem FK.of_ext {b pb : Nat} {p : FP} {w w' : World} (x : Ext0 b w w') : FK b pb p p w w' :=
  ⟨x.os, x.tape, x.output, x.size, fun _ h => .inl h, fun _ h => .inl h, fun k hk h1 _ _ _ => x.block k hk h1⟩

theorem rdr_ne : (174 : TypeId) ≠ 176 ∧ (174 : TypeId) ≠ 3 := by decide

/-- the reader, at a token or behind a fault -/
def FX (base b pb : Nat) (s : ByteArray) (r : Except (Nat × Nat) Sp.Bs) (o : Int) (p : FP) (w : World) : Prop := match r with
  | .ok l => FR base b pb s l o p w
  | .error e => FE base b pb s e p w

theorem FR.drop_eq {base b pb : Nat} {s : ByteArray} {l : Sp.Bs} {o : Int} {p : FP} {w : World} (h : FR base b pb s l o p w) : s.data.toList.drop (s.size - l.length + Sp.tokLen l) = l.drop (Sp.tokLen l) := by
  obtain ⟨t, ht⟩ := h.suf
  have e : s.size = t.length + l.length := by
    have : s.data.toList.length = s.size := by simp
    rw [← this, ← ht]; simp
  rw [← ht, e, show t.length + l.length - l.length + Sp.tokLen l = t.length + Sp.tokLen l by omega, ← List.drop_drop]
  simp

theorem FR.ext {base b pb : Nat} {s : ByteArray} {l l' : Sp.Bs} {o o' : Int} {p : FP} {w w' : World} (h : FR base b pb s l o p w) (x : Ext0 b w w') (hb : w'.heap[b]? = some (.cells (frCells s ((s.size - l'.length + Sp.tokLen l' : Nat) : Int) ((s.size - l'.length : Nat) : Int) ⟨(Sp.tok l').toArray⟩ pb o' 0) 174)) (hl : l' <:+ s.data.toList) : FR base b pb s l' o' p w' :=
  ⟨hb, h.prog.ext x h.ne (h.prog.rows_ne h.blk rdr_ne).1 (h.prog.rows_ne h.blk rdr_ne).2, hl, h.sz, h.ge, h.ne⟩

theorem FR.fe {base b pb : Nat} {s : ByteArray} {l : Sp.Bs} {o : Int} {p : FP} {w w' : World} (h : FR base b pb s l o p w) (x : Ext0 b w w') (er : Nat) (hb : w'.heap[b]? = some (.cells (frCells s ((s.size - l.length + Sp.tokLen l : Nat) : Int) ((s.size - l.length : Nat) : Int) ⟨(Sp.tok l).toArray⟩ pb o er) 174)) (he : er ≠ 0) : FE base b pb s (er, l.length) p w' :=
  ⟨⟨_, _, _, hb, by have := h.len; have := h.sz; omega⟩, h.prog.ext x h.ne (h.prog.rows_ne h.blk rdr_ne).1 (h.prog.rows_ne h.blk rdr_ne).2, he, h.ge, h.ne⟩

theorem FE.ext {base b pb : Nat} {s : ByteArray} {er : Nat × Nat} {p : FP} {w w' : World} (h : FE base b pb s er p w) (x : Ext0 b w w') (hb : ∃ (i : Int) (l : Sp.Bs) (o : Int), w'.heap[b]? = some (.cells (frCells s i ((s.size - er.2 : Nat) : Int) ⟨(Sp.tok l).toArray⟩ pb o er.1) 174) ∧ l.length ≤ 400) : FE base b pb s er p w' := by
  obtain ⟨_, _, _, hb0, _⟩ := h.blk
  exact ⟨hb, h.prog.ext x h.ne (h.prog.rows_ne hb0 rdr_ne).1 (h.prog.rows_ne hb0 rdr_ne).2, h.nz, h.ge, h.ne⟩

theorem ext_set {b : Nat} {w : World} (i : Nat) (u : Value) : Ext0 b w (w.setCell ⟨b, i, none⟩ u) := (Ext0.refl b w).setCell (p := ⟨b, i, none⟩) (.inl rfl) u

theorem fr_open {w : World} {b pb : Nat} {s : ByteArray} {i a o er : Int} {t : ByteArray} (hb : w.heap[b]? = some (.cells (frCells s i a t pb o er) 174)) (o' : Int) : (w.setCell ⟨b, 5, none⟩ (.int .i64 o')).heap[b]? = some (.cells (frCells s i a t pb o' er) 174) := by
  rw [heap_setCell_at hb 5 (.int .i64 o')]; rfl
theorem fr_err {w : World} {b pb : Nat} {s : ByteArray} {i a o er : Int} {t : ByteArray} (hb : w.heap[b]? = some (.cells (frCells s i a t pb o er) 174)) (e' : Int) : (w.setCell ⟨b, 6, none⟩ (.int .i64 e')).heap[b]? = some (.cells (frCells s i a t pb o e') 174) := by
  rw [heap_setCell_at hb 6 (.int .i64 e')]; rfl

theorem ftok_ne {l t : Sp.Bs} (h : Sp.tok l ≠ t) : (Sp.tok l == t) = false := by simpa using h
theorem ftok_eq {l t : Sp.Bs} (h : Sp.tok l = t) : (Sp.tok l == t) = true := by simpa using h

/-- step, at a token -/
theorem fstep_fr {base b pb : Nat} {s : ByteArray} {l : Sp.Bs} {o : Int} {p : FP} {w : World} (h : FR base b pb s l o p w) :
    Calls Tryz.prog 65 #[.pointer (some ⟨b, 0, none⟩)] w fun e w' => e = .returned (.tuple #[]) ∧ FR base b pb s (Sp.next l) o p w' ∧ FK b pb p p w w' := by
  have hl := h.len
  have ht := Sp.tokLen_le l
  refine (fstep_calls (s.size - l.length + Sp.tokLen l) h.blk (by omega) h.sz).mono ?_
  rintro e w' ⟨rfl, hb, hx⟩
  rw [h.drop_eq] at hb
  exact ⟨rfl, h.ext hx hb ((Sp.next_suffix l).trans h.suf), FK.of_ext hx⟩

theorem wrong_fr {base b pb : Nat} {s : ByteArray} {l : Sp.Bs} {o : Int} {p : FP} {w : World} (h : FR base b pb s l o p w) (er : Nat) (he : er ≠ 0) (ei : Int) (hei : ei = er) :
    Calls Tryz.prog 67 #[.pointer (some ⟨b, 0, none⟩), .int .i64 ei] w fun e w' => e = .returned (.tuple #[]) ∧ FE base b pb s (er, l.length) p w' ∧ FK b pb p p w w' := by
  subst hei
  have c6 := cell_of h.blk 6 (v := .int .i64 0) rfl
  have f6 := frozen_of h.blk 6
  have x := ext_set (b := b) (w := w) 6 (.int .i64 (er : Int))
  have H := h.fe x er (fr_err h.blk _) he
  go_enter Tryz.func67, Tryz.ntmps67
  go_wp2_with fail
  go_end0
  exact ⟨rfl, H, FK.of_ext x⟩

theorem wrong_fe {base b pb : Nat} {s : ByteArray} {er : Nat × Nat} {p : FP} {w : World} (h : FE base b pb s er p w) (ei : Int) :
    Calls Tryz.prog 67 #[.pointer (some ⟨b, 0, none⟩), .int .i64 ei] w fun e w' => e = .returned (.tuple #[]) ∧ w' = w := by
  obtain ⟨i, l0, o, hb, hl0⟩ := h.blk
  have c6 := cell_of hb 6 (v := .int .i64 er.1) rfl
  have hz : ((er.1 : Int) == 0) = false := by have := h.nz; simp; omega
  have hz2 : ¬ ((er.1 : Int) = 0) := by have := h.nz; omega
  clear h hb
  generalize (er.1 : Int) = q at *
  go_enter Tryz.func67, Tryz.ntmps67
  go_wp2_with fail
  go_end0
  exact ⟨rfl, rfl⟩

theorem take_fe {base b pb : Nat} {s : ByteArray} {er : Nat × Nat} {p : FP} {w : World} (h : FE base b pb s er p w) (t : ByteArray) :
    Calls Tryz.prog 132 #[.pointer (some ⟨b, 0, none⟩), .string t] w fun e w' => e = .returned (.tuple #[]) ∧ w' = w := by
  obtain ⟨i, l0, o, hb, hl0⟩ := h.blk
  have c6 := cell_of hb 6 (v := .int .i64 er.1) rfl
  have hz : ((er.1 : Int) == 0) = false := by have := h.nz; simp; omega
  have hz2 : ¬ ((er.1 : Int) = 0) := by have := h.nz; omega
  clear h hb
  generalize (er.1 : Int) = q at *
  go_enter Tryz.func132, Tryz.ntmps132
  go_wp2_with fail
  ((try simp only [Exit.inBlock, Exit.then]); refine bodyPost_ret (results_none rfl _ _ _) rfl ?_)
  exact ⟨rfl, rfl⟩

theorem take_fr {base b pb : Nat} {s : ByteArray} {l : Sp.Bs} {o : Int} {p : FP} {w : World} (h : FR base b pb s l o p w) (t : Sp.Bs) :
    Calls Tryz.prog 132 #[.pointer (some ⟨b, 0, none⟩), .string ⟨t.toArray⟩] w fun e w' => e = .returned (.tuple #[]) ∧ FX base b pb s (Sp.take t l) o p w' ∧ FK b pb p p w w' := by
  have c6 := cell_of h.blk 6 (v := .int .i64 0) rfl
  have c3 := cell_of h.blk 3 (v := .string ⟨(Sp.tok l).toArray⟩) rfl
  by_cases ht : Sp.tok l = t
  · have E : Hid (Sp.take t l = .ok (Sp.next l)) := by unfold Hid Sp.take; rw [if_pos ht]
    have hbq := ftok_eq ht
    go_enter Tryz.func132, Tryz.ntmps132
    go_wp2_with fail
    refine (fstep_fr h).mono ?_
    rintro e w1 ⟨rfl, h1, k1⟩
    go_wp2_with fail
    go_end0
    exact ⟨rfl, by rw [E.out]; exact h1, k1⟩
  · have E : Hid (Sp.take t l = .error (2, l.length)) := by unfold Hid Sp.take; rw [if_neg ht]; rfl
    have hbq := ftok_ne ht
    go_enter Tryz.func132, Tryz.ntmps132
    go_wp2_with fail
    refine (wrong_fr h 2 (by decide) 2 rfl).mono ?_
    rintro e w1 ⟨rfl, h1, k1⟩
    go_wp2_with fail
    ((try simp only [Exit.inBlock, Exit.then]); refine bodyPost_ret (results_none rfl _ _ _) rfl ?_)
    exact ⟨rfl, by rw [E.out]; exact h1, k1⟩

theorem take_fx {base b pb : Nat} {s : ByteArray} {r : Except (Nat × Nat) Sp.Bs} {o : Int} {p : FP} {w : World} (h : FX base b pb s r o p w) (t : Sp.Bs) :
    Calls Tryz.prog 132 #[.pointer (some ⟨b, 0, none⟩), .string ⟨t.toArray⟩] w fun e w' => e = .returned (.tuple #[]) ∧ FX base b pb s (r.bind (Sp.take t)) o p w' ∧ FK b pb p p w w' := by
  cases r with
  | ok l => exact take_fr h t
  | error e =>
    refine (take_fe (show FE base b pb s e p w from h) _).mono ?_
    rintro _ _ ⟨rfl, rfl⟩
    exact ⟨rfl, h, FK.refl _ _ _ _⟩

/-- Open is set -/
theorem FX.set_open {base b pb : Nat} {s : ByteArray} {r : Except (Nat × Nat) Sp.Bs} {o : Int} {p : FP} {w : World} (h : FX base b pb s r o p w) (_d : Int) :
    ∃ q : Int, w.cell? ⟨b, 5, none⟩ = some (.int .i64 q) ∧ w.frozen? ⟨b, 5, none⟩ = false ∧ (∀ l, r = .ok l → q = o) ∧ (∀ q' o' : Int, (∀ l, r = .ok l → q' = o') → FX base b pb s r o' p (w.setCell ⟨b, 5, none⟩ (.int .i64 q')) ∧ FK b pb p p w (w.setCell ⟨b, 5, none⟩ (.int .i64 q'))) := by
  cases r with
  | ok l =>
    have h' : FR base b pb s l o p w := h
    refine ⟨o, cell_of h'.blk 5 rfl, frozen_of h'.blk 5, fun _ _ => rfl, ?_⟩
    intro q' o' hq
    have := hq l rfl
    subst this
    exact ⟨h'.ext (ext_set 5 _) (fr_open h'.blk _) h'.suf, FK.of_ext (ext_set 5 _)⟩
  | error e =>
    have h' : FE base b pb s e p w := h
    obtain ⟨i, t, q, hb, hl0⟩ := h'.blk
    refine ⟨q, cell_of hb 5 rfl, frozen_of hb 5, (fun _ hh => nomatch hh), ?_⟩
    intro q' o' hq
    exact ⟨h'.ext (ext_set 5 _) ⟨i, t, q', fr_open hb _, hl0⟩, FK.of_ext (ext_set 5 _)⟩

theorem shut_fx {base b pb : Nat} {s : ByteArray} {r : Except (Nat × Nat) Sp.Bs} {o : Nat} {p : FP} {w : World} (ho : o ≤ 20) (h : FX base b pb s r ((o + 1 : Nat) : Int) p w) (t : Sp.Bs) :
    Calls Tryz.prog 174 #[.pointer (some ⟨b, 0, none⟩), .string ⟨t.toArray⟩] w fun e w' => e = .returned (.tuple #[]) ∧ FX base b pb s (r.bind (Sp.take t)) (o : Int) p w' ∧ FK b pb p p w w' := by
  go_enter Tryz.func174, Tryz.ntmps174
  go_wp2_with fail
  refine (take_fx h t).mono ?_
  rintro e w1 ⟨rfl, h1, k1⟩
  obtain ⟨q, c5, f5, hq, hs⟩ := h1.set_open 0
  obtain ⟨h2, k2⟩ := hs (RowKit.wrap64 (q - 1)) (o : Int) (fun l e => by rw [hq l e, IntWalk.wrap64_in _ (by omega)]; omega)
  go_wp2_with fail
  go_end0
  exact ⟨rfl, h2, k1.trans k2⟩

/-- open, at a token -/
theorem open_fr {base b pb : Nat} {s : ByteArray} {l : Sp.Bs} {o : Nat} {p : FP} {w : World} (ho : o ≤ 12) (h : FR base b pb s l o p w) (t : Sp.Bs) :
    Calls Tryz.prog 173 #[.pointer (some ⟨b, 0, none⟩), .string ⟨t.toArray⟩] w fun e w' => e = .returned (.tuple #[]) ∧ FX base b pb s (Sp.enter t o l) ((o + 1 : Nat) : Int) p w' ∧ FK b pb p p w w' := by
  have c6 := cell_of h.blk 6 (v := .int .i64 0) rfl
  have c5 := cell_of h.blk 5 (v := .int .i64 (o : Int)) rfl
  have c3 := cell_of h.blk 3 (v := .string ⟨(Sp.tok l).toArray⟩) rfl
  by_cases ht : Sp.tok l = t
  · have hbq := ftok_eq ht
    by_cases h12 : o = 12
    · subst h12
      have E : Hid (Sp.enter t 12 l = .error (3, l.length)) := by unfold Hid Sp.enter; rw [if_pos ht, if_pos rfl]; rfl
      go_enter Tryz.func173, Tryz.ntmps173
      go_wp2_with fail
      refine (wrong_fr h 3 (by decide) 3 rfl).mono ?_
      rintro e w1 ⟨rfl, h1, k1⟩
      go_wp2_with fail
      refine (take_fe h1 _).mono ?_
      rintro e w2 ⟨rfl, rfl⟩
      obtain ⟨q, c5, f5, hq, hs⟩ := FX.set_open (r := .error (3, l.length)) (o := 0) h1 0
      obtain ⟨h2, k2⟩ := hs (RowKit.wrap64 (q + 1)) ((12 + 1 : Nat) : Int) (fun _ hh => nomatch hh)
      go_wp2_with fail
      go_end0
      exact ⟨rfl, by rw [E.out]; exact h2, k1.trans k2⟩
    · have E : Hid (Sp.enter t o l = Sp.take t l) := by unfold Hid Sp.enter Sp.take; rw [if_pos ht, if_neg h12, if_pos ht]
      have hlt : ¬ ((12 : Int) ≤ (o : Int)) := by omega
      go_enter Tryz.func173, Tryz.ntmps173
      go_wp2_with fail
      refine (take_fr h t).mono ?_
      rintro e w1 ⟨rfl, h1, k1⟩
      rw [← E.out] at h1
      obtain ⟨q, c5, f5, hq, hs⟩ := h1.set_open 0
      obtain ⟨h2, k2⟩ := hs (RowKit.wrap64 (q + 1)) ((o + 1 : Nat) : Int) (fun l e => by rw [hq l e, IntWalk.wrap64_in _ (by omega)]; omega)
      go_wp2_with fail
      go_end0
      exact ⟨rfl, h2, k1.trans k2⟩
  · have hbq := ftok_ne ht
    have E : Hid (Sp.enter t o l = Sp.take t l) := by unfold Hid Sp.enter Sp.take; rw [if_neg ht, if_neg ht]
    go_enter Tryz.func173, Tryz.ntmps173
    go_wp2_with fail
    refine (take_fr h t).mono ?_
    rintro e w1 ⟨rfl, h1, k1⟩
    rw [← E.out] at h1
    obtain ⟨q, c5, f5, hq, hs⟩ := h1.set_open 0
    obtain ⟨h2, k2⟩ := hs (RowKit.wrap64 (q + 1)) ((o + 1 : Nat) : Int) (fun l e => by rw [hq l e, IntWalk.wrap64_in _ (by omega)]; omega)
    go_wp2_with fail
    go_end0
    exact ⟨rfl, h2, k1.trans k2⟩

theorem open_fe {base b pb : Nat} {s : ByteArray} {er : Nat × Nat} {p : FP} {w : World} (h : FE base b pb s er p w) (t : ByteArray) :
    Calls Tryz.prog 173 #[.pointer (some ⟨b, 0, none⟩), .string t] w fun e w' => e = .returned (.tuple #[]) ∧ FE base b pb s er p w' ∧ FK b pb p p w w' := by
  obtain ⟨i, l0, o, hb, hl0⟩ := h.blk
  have c6 := cell_of hb 6 (v := .int .i64 er.1) rfl
  have hz : ((er.1 : Int) == 0) = false := by have := h.nz; simp; omega
  have hz2 : ¬ ((er.1 : Int) = 0) := by have := h.nz; omega
  go_enter Tryz.func173, Tryz.ntmps173
  go_wp2_with fail
  refine (take_fe h t).mono ?_
  rintro e w1 ⟨rfl, rfl⟩
  obtain ⟨q, c5, f5, hq, hs⟩ := FX.set_open (r := .error er) (o := 0) h 0
  obtain ⟨h2, k2⟩ := hs (RowKit.wrap64 (q + 1)) 0 (fun _ hh => nomatch hh)
  go_wp2_with fail
  go_end0
  exact ⟨rfl, h2, k2⟩

theorem open_fx {base b pb : Nat} {s : ByteArray} {r : Except (Nat × Nat) Sp.Bs} {o : Nat} {p : FP} {w : World} (ho : o ≤ 12) (h : FX base b pb s r o p w) (t : Sp.Bs) :
    Calls Tryz.prog 173 #[.pointer (some ⟨b, 0, none⟩), .string ⟨t.toArray⟩] w fun e w' => e = .returned (.tuple #[]) ∧ FX base b pb s (r.bind (Sp.enter t o)) ((o + 1 : Nat) : Int) p w' ∧ FK b pb p p w w' := by
  cases r with
  | ok l => exact open_fr ho h t
  | error e => exact open_fe (show FE base b pb s e p w from h) _

end Go.Proofs.YtiopfihjmkfdmaaGreatDoor

/- THE DOCUMENT'S ANSWER: node. -/
namespace Go.Proofs.YtiopfihjmkfdmaaGreatDoor
open Go.RowKit
set_option maxRecDepth 100000
set_option maxHeartbeats 2000000

theorem infoNode : (Tryz.prog.info? 176).map (fun i => (i.zero, i.size, i.bytes)) = some (some (.agg #[.int .i64 0, .int .i64 0, .int .i64 0, .int .i64 0, .int .i64 0, .int .i64 0, .string ByteArray.empty, .int .i64 0, .int .i64 0, .bool false]), 10, 88) := by kernel_rfl

theorem fCells_snoc (ns : List FNode) (n : FNode) : fCells (ns ++ [n]) = fCells ns ++ fCell n := by
  unfold fCells; simp

theorem fp_nodes {w : World} {pb : Nat} {p : FP} {first : Int} (h : w.heap[pb]? = some (.cells (fpCells p first) 105)) (v : Value) (ns : List FNode) : (w.setCell ⟨pb, 0, none⟩ v).heap[pb]? = some (.cells (fpCells { p with ns := ns, nv := v } first) 105) := by
  rw [heap_setCell_at h 0 v]; rfl

theorem prog_ne : (105 : TypeId) ≠ 176 ∧ (105 : TypeId) ≠ 3 := by decide

/-- the two rows lie apart -/
theorem FPAt.rows_apart {base pb : Nat} {p : FP} {w : World} (h : FPAt base pb p w) : ∀ g, p.nv.ownBlock = some g → p.qv.ownBlock ≠ some g := by
  intro g hg hq
  obtain ⟨_, _, c, hc⟩ := ownsRow9_lt h.rowN g hg
  obtain ⟨_, _, c', hc'⟩ := ownsRow9_lt h.rowQ g hq
  rw [hc] at hc'
  cases hc'

/-- where the reader's block is -/
theorem FX.rdr {base b pb : Nat} {s : ByteArray} {r : Except (Nat × Nat) Sp.Bs} {o : Int} {p : FP} {w : World} (h : FX base b pb s r o p w) : ∃ i a t o' er, w.heap[b]? = some (.cells (frCells s i a t pb o' er) 174) := by
  cases r with
  | ok l => exact ⟨_, _, _, _, _, (show FR base b pb s l o p w from h).blk⟩
  | error e =>
    obtain ⟨i, t, o', hb, _⟩ := (show FE base b pb s e p w from h).blk
    exact ⟨_, _, _, _, _, hb⟩
theorem FX.prog {base b pb : Nat} {s : ByteArray} {r : Except (Nat × Nat) Sp.Bs} {o : Int} {p : FP} {w : World} (h : FX base b pb s r o p w) : FPAt base pb p w := by
  cases r with
  | ok l => exact (show FR base b pb s l o p w from h).prog
  | error e => exact (show FE base b pb s e p w from h).prog
theorem FX.ne {base b pb : Nat} {s : ByteArray} {r : Except (Nat × Nat) Sp.Bs} {o : Int} {p : FP} {w : World} (h : FX base b pb s r o p w) : b ≠ pb := by
  cases r with
  | ok l => exact (show FR base b pb s l o p w from h).ne
  | error e => exact (show FE base b pb s e p w from h).ne
theorem FX.ge {base b pb : Nat} {s : ByteArray} {r : Except (Nat × Nat) Sp.Bs} {o : Int} {p : FP} {w : World} (h : FX base b pb s r o p w) : base ≤ b := by
  cases r with
  | ok l => exact (show FR base b pb s l o p w from h).ge
  | error e => exact (show FE base b pb s e p w from h).ge
/-- the reader's block as it was, the program's another -/
theorem FX.move {base b pb : Nat} {s : ByteArray} {r : Except (Nat × Nat) Sp.Bs} {o : Int} {p p' : FP} {w w' : World} (h : FX base b pb s r o p w) (hb : w'.heap[b]? = w.heap[b]?) (hp : FPAt base pb p' w') : FX base b pb s r o p' w' := by
  cases r with
  | ok l =>
    have h' : FR base b pb s l o p w := h
    exact ⟨by rw [hb]; exact h'.blk, hp, h'.suf, h'.sz, h'.ge, h'.ne⟩
  | error e =>
    have h' : FE base b pb s e p w := h
    exact ⟨by rw [hb]; exact h'.blk, hp, h'.nz, h'.ge, h'.ne⟩

theorem FX.after {base b pb : Nat} {s : ByteArray} {r : Except (Nat × Nat) Sp.Bs} {o : Int} {p : FP} {w w' : World} (h : FX base b pb s r o p w) (hb : Below w.heap.size w w') : FX base b pb s r o p w' := by
  obtain ⟨_, _, _, _, _, h1⟩ := h.rdr
  exact h.move (hb.block _ (heap_lt h1)) (h.prog.after hb)

/-- behind the append and the store -/
theorem noded_at {base b pb : Nat} {s : ByteArray} {r : Except (Nat × Nat) Sp.Bs} {oo : Int} {p : FP} {w w1 : World} {o : Obj} (h : FX base b pb s r oo p w) (hn : p.ns.length + 1 ≤ 1000000) (n : FNode) {gg cap : Nat}
    (hown : w1.ownsRow base 176 10 (.slice (some ⟨gg, 0, none⟩) (p.ns.length + 1) cap) (p.ns.length + 1) (fCells p.ns ++ fCell n)) (hg : (w.alloc o).drew.grownBy w1 p.nv.ownBlock) (hat : p.nv.ownBlock = some gg ∨ gg = w.heap.size + 1) :
    FX base b pb s r oo { p with ns := p.ns ++ [n], nv := .slice (some ⟨gg, 0, none⟩) (p.ns.length + 1) cap } (w1.setCell ⟨pb, 0, none⟩ (.slice (some ⟨gg, 0, none⟩) (p.ns.length + 1) cap)) ∧ FK b pb p { p with ns := p.ns ++ [n], nv := .slice (some ⟨gg, 0, none⟩) (p.ns.length + 1) cap } w (w1.setCell ⟨pb, 0, none⟩ (.slice (some ⟨gg, 0, none⟩) (p.ns.length + 1) cap)) := by
  have hp := h.prog
  have hlt := heap_lt hp.blk
  obtain ⟨i, a, t, o', er, hb⟩ := h.rdr
  have hblk : ∀ k, k < w.heap.size → p.nv.ownBlock ≠ some k → w1.heap[k]? = w.heap[k]? := fun k hk hn => by
    rw [hg.block k (by show k < (w.alloc o).heap.size; simp; omega) (fun e => hn e.symm)]
    exact Below.heap_alloc _ _ _ hk
  have hsz : w.heap.size ≤ w1.heap.size := by
    have := hg.size
    have h2 : (w.alloc o).drew.heap.size = w.heap.size + 1 := by show (w.alloc o).heap.size = _; simp
    omega
  have hnp := hp.rows_ne hp.blk prog_ne
  have hnb := hp.rows_ne hb rdr_ne
  have hp1 : w1.heap[pb]? = some (.cells (fpCells p 0) 105) := by rw [hblk pb hlt hnp.1]; exact hp.blk
  have hpn : FPAt base pb { p with ns := p.ns ++ [n], nv := .slice (some ⟨gg, 0, none⟩) (p.ns.length + 1) cap } (w1.setCell ⟨pb, 0, none⟩ (.slice (some ⟨gg, 0, none⟩) (p.ns.length + 1) cap)) := by
    refine ⟨fp_nodes hp1 _ _, ?_, ?_, hp.ge, by simp; omega, hp.q5⟩
    · show World.ownsRow _ base 176 10 _ (p.ns ++ [n]).length (fCells (p.ns ++ [n]))
      rw [fCells_snoc, List.length_append]
      exact ownsRow9_keep hown (fun g hg' => Below.heap_setCell _ _ _ _ (fun e => by
        obtain ⟨_, _, c, hc⟩ := ownsRow9_lt hown g hg'
        have e' : g = pb := e
        rw [e', hp1] at hc
        cases hc))
    · refine ownsRow9_keep hp.rowQ (fun g hg' => ?_)
      have hgl := (ownsRow9_lt hp.rowQ g hg').2.1
      rw [Below.heap_setCell _ _ _ _ (fun e => hnp.2 (by rw [← show g = pb from e]; exact hg'))]
      exact hblk g hgl (fun e => hp.rows_apart g e hg')
  refine ⟨h.move ?_ hpn, hg.os, hg.tape, hg.output, by simp [World.setCell]; omega, ?_, fun _ e => .inl e, ?_⟩
  · rw [Below.heap_setCell _ _ _ _ h.ne]
    exact hblk b (heap_lt hb) hnb.1
  · intro g hg'
    have e : gg = g := by simpa [Value.ownBlock] using hg'
    subst e
    rcases hat with h1 | h1
    · exact .inl h1
    · exact .inr (by omega)
  · intro k hk _ h2 h3 _
    rw [Below.heap_setCell _ _ _ _ h2]
    exact hblk k hk h3

attribute [local go_sem ↓] Go.wp_at_zero Go.wp_at_succ
set_option maxHeartbeats 8000000 in
theorem node_calls {base b pb : Nat} {s : ByteArray} {r : Except (Nat × Nat) Sp.Bs} {o : Int} {p : FP} {w : World} (h : FX base b pb s r o p w) (n : FNode) (hn : p.ns.length + 1 ≤ 1000000) :
    Calls Tryz.prog 130 #[.pointer (some ⟨b, 0, none⟩), .agg (fCell n).toArray] w fun e w' => e = .returned (.int .i64 (p.ns.length : Nat)) ∧ ∃ v, FX base b pb s r o { p with ns := p.ns ++ [n], nv := v } w' ∧ FK b pb p { p with ns := p.ns ++ [n], nv := v } w w' := by
  obtain ⟨i0, hi, hz0, hz1, hz2⟩ := info_parts infoNode
  have hlt0 : pb < w.heap.size ∧ b < w.heap.size := ⟨heap_lt h.prog.blk, by obtain ⟨_, _, _, _, _, hb⟩ := h.rdr; exact heap_lt hb⟩
  have hA : Below w.heap.size w (w.alloc (.cells (fCell n).toArray 176)) := (Below.refl _ _).alloc (Nat.le_refl _) _
  have h := h.after hA
  have kA : FK b pb p p w (w.alloc (.cells (fCell n).toArray 176)) := FK.of_below hA
  have hsA : (w.alloc (.cells (fCell n).toArray 176)).heap.size = w.heap.size + 1 := by simp
  obtain ⟨ii, a, t, o', er, hb⟩ := h.rdr
  have hp := h.prog
  have c4 := cell_of hb 4 (v := .pointer (some ⟨pb, 0, none⟩)) rfl
  have c0 := cell_of hp.blk 0 (v := p.nv) rfl
  have f0 := frozen_of hp.blk 0
  have hltx : pb < (w.alloc (.cells (fCell n).toArray 176)).heap.size := heap_lt hp.blk
  have hltb : b < (w.alloc (.cells (fCell n).toArray 176)).heap.size := heap_lt hb
  have ag : p.nv.ownBlock ≠ some pb := (hp.rows_ne hp.blk prog_ne).1
  have ab : p.nv.ownBlock ≠ some b := (hp.rows_ne hb rdr_ne).1
  have hox := hp.rowN
  have hge := hp.ge
  have hn' : p.ns.length + 1 ≤ maxLen := by unfold maxLen; omega
  have hby : (p.ns.length + 1) * 88 ≤ 140737488355328 := by omega
  have hnew : ((w.alloc (.cells (fCell n).toArray 176)).alloc (.cells (fCell n).toArray 176)).heap[w.heap.size + 1]? = some (.cells (fCell n).toArray 176) := by
    have := heap_alloc_new (w.alloc (.cells (fCell n).toArray 176)) (.cells (fCell n).toArray 176)
    rw [hsA] at this; exact this
  have H : Hid (FX base b pb s r o p (w.alloc (.cells (fCell n).toArray 176)) ∧ FK b pb p p w (w.alloc (.cells (fCell n).toArray 176))) := ⟨h, kA⟩
  have dd : (w.alloc (.cells (fCell n).toArray 176)) = (w.alloc (.cells #[.int .i64 n.kind, .int .i64 n.a, .int .i64 n.b, .int .i64 n.c, .int .i64 n.n, .int .i64 n.next, .string ⟨n.sign.toArray⟩, .int .i64 n.site, .int .i64 n.point, .bool n.els] 176)) := rfl
  have hwl : pb < w.heap.size ∧ b < w.heap.size := hlt0
  have c4w : w.cell? ⟨b, 4, none⟩ = some (.pointer (some ⟨pb, 0, none⟩)) := by rw [← hA.cell (p := ⟨b, 4, none⟩) hwl.2]; exact c4
  have c0w : w.cell? ⟨pb, 0, none⟩ = some p.nv := by rw [← hA.cell (p := ⟨pb, 0, none⟩) hwl.1]; exact c0
  rw [dd] at c4 c0 f0 hltx hltb hox hsA
  clear hA h kA hb hp
  show Calls Tryz.prog 130 #[.pointer (some ⟨b, 0, none⟩), .agg #[.int .i64 n.kind, .int .i64 n.a, .int .i64 n.b, .int .i64 n.c, .int .i64 n.n, .int .i64 n.next, .string ⟨n.sign.toArray⟩, .int .i64 n.site, .int .i64 n.point, .bool n.els]] w _
  go_enter Tryz.func130, Tryz.ntmps130
  go_wp2_with fail
  go_region_law
    ((refine step_append_lies _ (by rfl) _ _ _ (by rfl) base 176 i0 _ 10 88 Tryz.underlying103 hi hz0 hz1 hz2 rfl (by omega) p.nv p.ns.length (fCells p.ns) (by rfl) ((hox.alloc _).drew)
        ⟨w.heap.size + 1, 0, none⟩ 1 1 (fCell n) (by rfl) (by rfl) (World.news_of_block (cs := (fCell n).toArray) (t := 176) (fr := (0, 0)) hnew) (by simp [Value.oneCell', fCell])
        (by omega) hn' hby (by simp; omega) (w.heap.size + 1 + 1) (by simp) ?_; intro gg cap w1 hown1 hgrow hat hlt; have f1 : w1.frozen? ⟨pb, 0, none⟩ = false := (by rw [hgrow.frozen_far _ (by simp; omega) (Ne.symm ag)]; exact frozen_alloc hltx f0); have d1 : w1.cell? ⟨pb, 0, none⟩ = some p.nv := (by rw [hgrow.cell_far _ (by simp; omega) (Ne.symm ag)]; exact cell_alloc hltx c0); have d4 : w1.cell? ⟨b, 4, none⟩ = some (.pointer (some ⟨pb, 0, none⟩)) := (by rw [hgrow.cell_far _ (by simp; omega) (Ne.symm ab)]; exact cell_alloc hltb c4)))
  all_goals
    have hr : Hid (RowKit.wrap64 ((p.ns.length : Int) + 1 - 1) = p.ns.length) := by unfold Hid; rw [IntWalk.wrap64_in _ (by omega)]; omega
    have HF := noded_at H.out.1 hn n hown1 hgrow (by rw [dd, hsA]; exact hat)
    have HH : Hid (_ ∧ _) := HF
    clear HF hown1 hgrow hat hlt c0 c4 c0w c4w f0 hox hnew dd hsA hltx hltb
    go_wp2_with fail
    go_ret
    exact ⟨by go_num, _, HH.out.1, H.out.2.trans HH.out.2⟩

end Go.Proofs.YtiopfihjmkfdmaaGreatDoor
