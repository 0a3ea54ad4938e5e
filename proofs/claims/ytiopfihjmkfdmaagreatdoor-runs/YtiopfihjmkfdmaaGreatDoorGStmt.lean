/- WHAT IS LEFT grows shorter: statements (plain). -/
import Derived.Test.YtiopfihjmkfdmaaGreatDoorGUnary
import Derived.Test.YtiopfihjmkfdmaaGreatDoorGWhile
namespace Go.Proofs.YtiopfihjmkfdmaaGreatDoor
namespace Sp

theorem pS_lt {A : Alg} {o : Nat} {l : Bs} {x : A.S} {l1 : Bs} (h : pS A o l = .ok (x, l1)) : l1.length < l.length :=
  pSum_lt (pUnary_lt _ _) l x l1 h

theorem pCond_lt {A : Alg} {o : Nat} {l : Bs} {c : Nat × A.S × A.S} {l1 : Bs} (h : pCond A o l = .ok (c, l1)) : l1.length < l.length := by
  unfold pCond at h
  split at h
  · rename_i x l2 hr
    have h1 := pS_lt hr
    split at h
    · split at h
      · rename_i y l3 hr2
        have h2 := pS_lt hr2
        have h3 := next_le l2
        cases h; omega
      · cases h
    · cases h
  · cases h

theorem pName_lt {l l1 : Bs} {k : Nat} (h : pName l = .ok (k, l1)) : l1.length < l.length := by
  obtain ⟨hk, rfl⟩ := pName_ok_iff h
  exact next_lt (tokLen_pos (.inl (nameVal_kind hk)))

theorem take_le {t l l1 : Bs} (h : take t l = .ok l1) : l1.length ≤ l.length := by
  obtain ⟨_, rfl⟩ := take_ok_iff h; exact next_le l

theorem pMany_le {A : Alg} {st : Bs → R A.T} (hs : ∀ l x l1, st l = .ok (x, l1) → l1.length < l.length) : ∀ (m : Nat) (xs : List A.T) (l : Bs) (ys : List A.T) (l1 : Bs), pMany A st m xs l = .ok (ys, l1) → l1.length ≤ l.length
  | 0, xs, l, ys, l1, h => by unfold pMany at h; cases h; exact Nat.le_refl _
  | m + 1, xs, l, ys, l1, h => by
    unfold pMany at h
    split at h
    · split at h
      · rename_i x l2 hr
        have := hs _ _ _ hr
        have := pMany_le hs m _ _ _ _ h
        omega
      · cases h
    · cases h; exact Nat.le_refl _

theorem pBlock_lt {A : Alg} {st : Bs → R A.T} (hs : ∀ l x l1, st l = .ok (x, l1) → l1.length < l.length) {o : Nat} {l : Bs} {xs : List A.T} {l1 : Bs} (h : pBlock A st o l = .ok (xs, l1)) : l1.length < l.length := by
  unfold pBlock at h
  split at h
  · rename_i l2 hr
    obtain ⟨ht, _, rfl⟩ := enter_ok_iff hr
    have := next_lt_of_tok ht (by simp)
    split at h
    · rename_i ys l3 hr2
      have := pMany_le hs _ _ _ _ _ hr2
      split at h
      · rename_i l4 hr3
        have := take_le hr3
        cases h; omega
      · cases h
    · cases h
  · cases h

theorem pStmt_lt {A : Alg} : ∀ (n o : Nat) (l : Bs) (x : A.T) (l1 : Bs), pStmt A n o l = .ok (x, l1) → l1.length < l.length
  | 0, o, l, x, l1, h => by unfold pStmt bad at h; cases h
  | n + 1, o, l, x, l1, h => by
    have hb : ∀ l xs l1, pBlock A (pStmt A n (o + 1)) o l = .ok (xs, l1) → l1.length < l.length := fun l xs l1 h => pBlock_lt (pStmt_lt n (o + 1)) h
    have hn := next_le l
    unfold pStmt at h
    split at h
    · unfold pRead at h
      split at h
      · rename_i k l2 hr
        have := pName_lt hr
        split at h
        · rename_i l3 hr2
          have := take_le hr2
          cases h; omega
        · cases h
      · cases h
    · split at h
      · unfold pAssert at h
        split at h
        · rename_i k x y l2 hr
          have := pCond_lt hr
          split at h
          · rename_i l3 hr2
            have := take_le hr2
            cases h; omega
          · cases h
        · cases h
      · split at h
        · unfold pIf at h
          split at h
          · rename_i k x y l2 hr
            have := pCond_lt hr
            split at h
            · rename_i xs l3 hr2
              have := hb _ _ _ hr2
              split at h
              · split at h
                · rename_i ys l4 hr3
                  have := hb _ _ _ hr3
                  have := next_le l3
                  cases h; omega
                · cases h
              · cases h; omega
            · cases h
          · cases h
        · split at h
          · unfold pWhile at h
            split at h
            · rename_i k x y l2 hr
              have := pCond_lt hr
              split at h
              · rename_i xs l3 hr2
                have := hb _ _ _ hr2
                cases h; omega
              · cases h
            · cases h
          · unfold pAssign at h
            split at h
            · rename_i k l2 hr
              have := pName_lt hr
              split at h
              · rename_i l3 hr2
                have := take_le hr2
                split at h
                · rename_i x l4 hr3
                  have := pS_lt hr3
                  split at h
                  · rename_i l5 hr4
                    have := take_le hr4
                    cases h; omega
                  · cases h
                · cases h
              · cases h
            · cases h

end Sp
end Go.Proofs.YtiopfihjmkfdmaaGreatDoor

/- (reader) statement, by induction on how much is left; statements, program. -/
namespace Go.Proofs.YtiopfihjmkfdmaaGreatDoor
open Go.RowKit
set_option maxRecDepth 100000
set_option maxHeartbeats 400000

/-- a call that begins behind one more point -/
theorem post_ahead {A : Sp.Alg} {Rp : Rep A} (Rt : RepT A Rp) {b : Nat} {s : ByteArray} {m1 m2 o : Nat} {ct : Int × Int} {w : World} {v0 : Value} {r : Sp.R A.T} (e : Ending) (w' : World)
    (h : StPost Rt b s m1 m2 o ct (w.setCell ⟨b, 5, none⟩ v0) r e w') : PostG (fun ct w' v x ct' => Rt.T ct w.heap.size w'.heap.size w' v x ct') b s m1 m2 o ct w r e w' := by
  have x : Ext b w (w.setCell ⟨b, 5, none⟩ v0) := (Ext.refl b w).setCell (p := ⟨b, 5, none⟩) (.inl rfl) _
  have hs : (w.setCell ⟨b, 5, none⟩ v0).heap.size = w.heap.size := by simp [World.setCell]
  unfold StPost at h
  cases r with
  | error er => exact Faulty.ahead x h
  | ok xl =>
    obtain ⟨v, rfl, ct', hv, h1, x1⟩ := h
    exact ⟨v, rfl, ct', by rw [hs] at hv; exact hv, h1, x.trans x1⟩

theorem statement_step {A : Sp.Alg} {Rp : Rep A} (Rt : RepT A Rp) (b : Nat) (s : ByteArray) (m1 m2 o n : Nat) (ho : o ≤ 12)
    (ih : o < 12 → StReads Rt 122 b s m1 m2 (o + 1) n (Sp.pStmt A n (o + 1))) : StReads Rt 122 b s m1 m2 o (n + 1) (Sp.pStmt A (n + 1) o) := by
  intro l ct w hl h hE
  have hblk : BlkReads Rt b s m1 m2 o (n + 1) (Sp.pBlock A (Sp.pStmt A n (o + 1)) o) := block_reads Rt b s m1 m2 o n ho _ (Sp.pStmt_lt n (o + 1)) ih
  have hbd : ∀ l x l1, Sp.pBlock A (Sp.pStmt A n (o + 1)) o l = .ok (x, l1) → l1.length ≤ l.length := fun l x l1 h => Nat.le_of_lt (Sp.pBlock_lt (Sp.pStmt_lt n (o + 1)) h)
  have hcd : ∀ c l1, Sp.pCond A o (Sp.next l) = .ok (c, l1) → l1.length < l.length := fun c l1 h => by have := Sp.pCond_lt h; have := Sp.next_le l; omega
  have h5 := h.c5
  have f5 := h.fz 5
  obtain ⟨hp, xp⟩ := rd_point h (RowKit.wrap64 (ct.1 + 1))
  have HP : Hid (Rd b s m1 m2 l o (ptUp ct) (w.setCell ⟨b, 5, none⟩ (.int .i64 (RowKit.wrap64 (ct.1 + 1))))) := hp
  have c3 := hp.c3
  have hE0 := hE.ext xp
  clear hp
  unfold Sp.pStmt
  by_cases t1 : Sp.tok l = Sp.wRead
  · rw [if_pos t1]
    have c3' : (w.setCell ⟨b, 5, none⟩ (.int .i64 (RowKit.wrap64 (ct.1 + 1)))).cell? ⟨b, 3, none⟩ = some (.string ⟨#[114, 101, 97, 100]⟩) := by rw [c3, t1]; rfl
    have hc : Calls Tryz.prog 164 #[.pointer (some ⟨b, 0, none⟩), .int .i64 ct.1] (w.setCell ⟨b, 5, none⟩ (.int .i64 (RowKit.wrap64 (ct.1 + 1)))) (PostG (fun ct w' v x ct' => Rt.T ct w.heap.size w'.heap.size w' v x ct') b s m1 m2 o ct w (Sp.pRead A l)) := (read_calls Rt b s m1 m2 o l ct _ HP.out t1).mono (post_ahead Rt)
    clear c3 ih hblk hbd hcd
    generalize Sp.pRead A l = r at hc ⊢
    cases r with
    | error er =>
      go_enter Tryz.func122, Tryz.ntmps122
      go_wp2_with fail
      refine hc.mono ?_
      rintro e w1 ⟨N, rfl, hf⟩
      exact ⟨rfl, N, rfl, hf⟩
    | ok xl =>
      obtain ⟨x, l1⟩ := xl
      go_enter Tryz.func122, Tryz.ntmps122
      go_wp2_with fail
      refine hc.mono ?_
      rintro e w1 ⟨v, rfl, ct1, hv, h1, x1⟩
      go_wp2_with fail
      go_ret
      exact ⟨v, rfl, ct1, hv, h1, x1⟩
  · rw [if_neg t1]
    have b1 : (Sp.tok l == [114, 101, 97, 100]) = false := tok_ne_beq t1
    by_cases t2 : Sp.tok l = Sp.wAssert
    · rw [if_pos t2]
      have c3' : (w.setCell ⟨b, 5, none⟩ (.int .i64 (RowKit.wrap64 (ct.1 + 1)))).cell? ⟨b, 3, none⟩ = some (.string ⟨#[97, 115, 115, 101, 114, 116]⟩) := by rw [c3, t2]; rfl
      have hc : Calls Tryz.prog 165 #[.pointer (some ⟨b, 0, none⟩), .int .i64 ct.1] (w.setCell ⟨b, 5, none⟩ (.int .i64 (RowKit.wrap64 (ct.1 + 1)))) (PostG (fun ct w' v x ct' => Rt.T ct w.heap.size w'.heap.size w' v x ct') b s m1 m2 o ct w (Sp.pAssert A o l)) := (assert_calls Rt b s m1 m2 o ho l ct _ HP.out hE0 t2).mono (post_ahead Rt)
      clear c3 ih hblk hbd hcd b1
      generalize Sp.pAssert A o l = r at hc ⊢
      cases r with
      | error er =>
        go_enter Tryz.func122, Tryz.ntmps122
        go_wp2_with fail
        refine hc.mono ?_
        rintro e w1 ⟨N, rfl, hf⟩
        exact ⟨rfl, N, rfl, hf⟩
      | ok xl =>
        obtain ⟨x, l1⟩ := xl
        go_enter Tryz.func122, Tryz.ntmps122
        go_wp2_with fail
        refine hc.mono ?_
        rintro e w1 ⟨v, rfl, ct1, hv, h1, x1⟩
        go_wp2_with fail
        go_ret
        exact ⟨v, rfl, ct1, hv, h1, x1⟩
    · rw [if_neg t2]
      have b2 : (Sp.tok l == [97, 115, 115, 101, 114, 116]) = false := tok_ne_beq t2
      by_cases t3 : Sp.tok l = Sp.wIf
      · rw [if_pos t3]
        have c3' : (w.setCell ⟨b, 5, none⟩ (.int .i64 (RowKit.wrap64 (ct.1 + 1)))).cell? ⟨b, 3, none⟩ = some (.string ⟨#[105, 102]⟩) := by rw [c3, t3]; rfl
        have hc : Calls Tryz.prog 166 #[.pointer (some ⟨b, 0, none⟩), .int .i64 ct.1] (w.setCell ⟨b, 5, none⟩ (.int .i64 (RowKit.wrap64 (ct.1 + 1)))) (PostG (fun ct w' v x ct' => Rt.T ct w.heap.size w'.heap.size w' v x ct') b s m1 m2 o ct w (Sp.pIf A (fun l => Sp.pBlock A (Sp.pStmt A n (o + 1)) o l) o l)) := (branch_calls Rt b s m1 m2 o (n + 1) ho _ hblk hbd l ct _ (by omega) HP.out hE0 t3 hcd).mono (post_ahead Rt)
        clear c3 ih hblk hbd hcd b1 b2
        generalize Sp.pIf A (fun l => Sp.pBlock A (Sp.pStmt A n (o + 1)) o l) o l = r at hc ⊢
        cases r with
        | error er =>
          go_enter Tryz.func122, Tryz.ntmps122
          go_wp2_with fail
          refine hc.mono ?_
          rintro e w1 ⟨N, rfl, hf⟩
          exact ⟨rfl, N, rfl, hf⟩
        | ok xl =>
          obtain ⟨x, l1⟩ := xl
          go_enter Tryz.func122, Tryz.ntmps122
          go_wp2_with fail
          refine hc.mono ?_
          rintro e w1 ⟨v, rfl, ct1, hv, h1, x1⟩
          go_wp2_with fail
          go_ret
          exact ⟨v, rfl, ct1, hv, h1, x1⟩
      · rw [if_neg t3]
        have b3 : (Sp.tok l == [105, 102]) = false := tok_ne_beq t3
        by_cases t4 : Sp.tok l = Sp.wWhile
        · rw [if_pos t4]
          have c3' : (w.setCell ⟨b, 5, none⟩ (.int .i64 (RowKit.wrap64 (ct.1 + 1)))).cell? ⟨b, 3, none⟩ = some (.string ⟨#[119, 104, 105, 108, 101]⟩) := by rw [c3, t4]; rfl
          have hc : Calls Tryz.prog 167 #[.pointer (some ⟨b, 0, none⟩), .int .i64 ct.1] (w.setCell ⟨b, 5, none⟩ (.int .i64 (RowKit.wrap64 (ct.1 + 1)))) (PostG (fun ct w' v x ct' => Rt.T ct w.heap.size w'.heap.size w' v x ct') b s m1 m2 o ct w (Sp.pWhile A (fun l => Sp.pBlock A (Sp.pStmt A n (o + 1)) o l) o l)) := (loop_calls Rt b s m1 m2 o (n + 1) ho _ hblk l ct _ (by omega) HP.out hE0 t4 hcd).mono (post_ahead Rt)
          clear c3 ih hblk hbd hcd b1 b2 b3
          generalize Sp.pWhile A (fun l => Sp.pBlock A (Sp.pStmt A n (o + 1)) o l) o l = r at hc ⊢
          cases r with
          | error er =>
            go_enter Tryz.func122, Tryz.ntmps122
            go_wp2_with fail
            refine hc.mono ?_
            rintro e w1 ⟨N, rfl, hf⟩
            exact ⟨rfl, N, rfl, hf⟩
          | ok xl =>
            obtain ⟨x, l1⟩ := xl
            go_enter Tryz.func122, Tryz.ntmps122
            go_wp2_with fail
            refine hc.mono ?_
            rintro e w1 ⟨v, rfl, ct1, hv, h1, x1⟩
            go_wp2_with fail
            go_ret
            exact ⟨v, rfl, ct1, hv, h1, x1⟩
        · rw [if_neg t4]
          have b4 : (Sp.tok l == [119, 104, 105, 108, 101]) = false := tok_ne_beq t4
          have hc : Calls Tryz.prog 168 #[.pointer (some ⟨b, 0, none⟩), .int .i64 ct.1] (w.setCell ⟨b, 5, none⟩ (.int .i64 (RowKit.wrap64 (ct.1 + 1)))) (PostG (fun ct w' v x ct' => Rt.T ct w.heap.size w'.heap.size w' v x ct') b s m1 m2 o ct w (Sp.pAssign A o l)) := (assign_calls Rt b s m1 m2 o ho l ct _ HP.out hE0).mono (post_ahead Rt)
          clear ih hblk hbd hcd t1 t2 t3 t4
          generalize Sp.pAssign A o l = r at hc ⊢
          cases r with
          | error er =>
            go_enter Tryz.func122, Tryz.ntmps122
            go_wp2_with fail
            refine hc.mono ?_
            rintro e w1 ⟨N, rfl, hf⟩
            exact ⟨rfl, N, rfl, hf⟩
          | ok xl =>
            obtain ⟨x, l1⟩ := xl
            go_enter Tryz.func122, Tryz.ntmps122
            go_wp2_with fail
            refine hc.mono ?_
            rintro e w1 ⟨v, rfl, ct1, hv, h1, x1⟩
            go_wp2_with fail
            go_ret
            exact ⟨v, rfl, ct1, hv, h1, x1⟩

theorem statement_reads {A : Sp.Alg} {Rp : Rep A} (Rt : RepT A Rp) (b : Nat) (s : ByteArray) (m1 m2 : Nat) : ∀ (n o : Nat), o ≤ 12 → StReads Rt 122 b s m1 m2 o n (Sp.pStmt A n o)
  | 0, _, _ => fun l _ _ hl _ _ => absurd hl (Nat.not_lt_zero _)
  | n + 1, o, ho => statement_step Rt b s m1 m2 o n ho (fun h => statement_reads Rt b s m1 m2 n (o + 1) (by omega))

end Go.Proofs.YtiopfihjmkfdmaaGreatDoor

/- (reader) program. -/
namespace Go.Proofs.YtiopfihjmkfdmaaGreatDoor
open Go.RowKit
set_option maxRecDepth 100000
set_option maxHeartbeats 400000

theorem tokKind_end {l : Sp.Bs} : Sp.tokKind l = 1 ↔ l = [] := by
  cases l with
  | nil => simp [Sp.tokKind]
  | cons c r =>
    rw [Sp.tokKind_cons]
    constructor
    · intro h
      split at h
      · omega
      · split at h
        · omega
        · split at h <;> omega
    · intro h; cases h

theorem row_slice0 {w : World} {base : Nat} {e : TypeId} {sz : Nat} {v : Value} {n : Nat} {vs : List Value} (h : w.ownsRow base e sz v n vs) : ∃ a m c, v = .slice a m c := by
  rcases h.2 with ⟨rfl, _⟩ | ⟨g, cap, cur, rfl, _⟩
  · exact ⟨_, _, _, rfl⟩
  · exact ⟨_, _, _, rfl⟩

theorem program_calls {A : Sp.Alg} {Rp : Rep A} (Rt : RepT A Rp) (b : Nat) (s : ByteArray) (m1 m2 : Nat) (l : Sp.Bs) (ct : Int × Int) (w : World) (h : Rd b s m1 m2 l 0 ct w) (hE : Env b m1 m2 w) :
    Calls Tryz.prog 58 #[.pointer (some ⟨b, 0, none⟩)] w fun e w' => match Sp.pProg A l with
      | .ok xs => ∃ v ct' nv ns, e = .returned (.agg #[v, .int .i64 ct'.1, .int .i64 ct'.2, nv]) ∧ Blk Rt.T ct w.heap.size w'.heap.size w' v xs ct' ∧ Ext b w w' ∧ w'.ownsRow (b + 1) 226 1 nv ns.length (numVals ns) ∧ Sp.Nums (Sp.skip s.data.toList) [] ns
      | .error er => Faulty s b w er e w' := by
  have hlt := h.lt
  have hx0 : Ext b w (w.alloc (.cells #[.slice none 0 0, .int .i64 0, .int .i64 0, .slice none 0 0] 86)) := (Ext.refl b w).alloc _
  have hc := statements_calls Rt b s m1 m2 0 (l.length + 1) (Sp.pStmt A (l.length + 1) 0) (Sp.pStmt_lt _ _) (statement_reads Rt b s m1 m2 (l.length + 1) 0 (by omega)) l ct (w.alloc (.cells #[.slice none 0 0, .int .i64 0, .int .i64 0, .slice none 0 0] 86)) (Nat.lt_succ_self _) (h.ext _) (hE.ext hx0)
  unfold Sp.pProg
  cases hr : Sp.pMany A (Sp.pStmt A (l.length + 1) 0) (l.length + 1) [] l with
  | error er =>
    rw [hr] at hc
    go_enter Tryz.func58, Tryz.ntmps58
    go_wp2_with fail
    refine hc.mono ?_
    rintro e w1 ⟨N, rfl, hf⟩
    exact ⟨rfl, Faulty.ahead hx0 ⟨N, rfl, hf⟩⟩
  | ok xl =>
    obtain ⟨xs, l1⟩ := xl
    rw [hr] at hc
    simp only
    by_cases he : l1 = []
    · rw [if_pos he]
      have hk := tokKind_end.2 he
      go_enter Tryz.func58, Tryz.ntmps58
      go_wp2_with fail
      refine hc.mono ?_
      rintro e w1 ⟨v, rfl, ct1, hv, h1, x1⟩
      have c2 : w1.cell? ⟨b, 2, none⟩ = some (.int .i64 1) := by rw [h1.c2, hk]; rfl
      obtain ⟨a1, n1, c1, rfl⟩ := blk_slice hv
      have hnb := new_block x1 hlt
      have k0 := cell_of hnb 0 (v := .slice none 0 0) rfl
      have k1 := cell_of hnb 1 (v := .int .i64 0) rfl
      have k2 := cell_of hnb 2 (v := .int .i64 0) rfl
      have k3 := cell_of hnb 3 (v := .slice none 0 0) rfl
      have f0 := frozen_of hnb 0
      have f1 := frozen_of hnb 1
      have f2 := frozen_of hnb 2
      have f3 := frozen_of hnb 3
      have c5 := h1.c5
      have c6 := h1.c6
      obtain ⟨nv, ns, hN, hL⟩ := h1
      obtain ⟨an, nn, cn, rfl⟩ := row_slice0 hN.row
      have c7 : w1.cell? ⟨b, 7, none⟩ = some (.slice an nn cn) := cell_of hN.blk 7 rfl
      have hW := heap_setCell_at (heap_setCell_at (heap_setCell_at (heap_setCell_at hnb 0 (.slice a1 n1 c1)) 1 (.int .i64 ct1.1)) 2 (.int .i64 ct1.2)) 3 (.slice an nn cn)
      have q0 := cell_of hW 0 (v := .slice a1 n1 c1) rfl
      have q1 := cell_of hW 1 (v := .int .i64 ct1.1) rfl
      have q2 := cell_of hW 2 (v := .int .i64 ct1.2) rfl
      have q3 := cell_of hW 3 (v := .slice an nn cn) rfl
      have HX : Hid (Ext b w ((((w1.setCell ⟨w.heap.size, 0, none⟩ (.slice a1 n1 c1)).setCell ⟨w.heap.size, 1, none⟩ (.int .i64 ct1.1)).setCell ⟨w.heap.size, 2, none⟩ (.int .i64 ct1.2)).setCell ⟨w.heap.size, 3, none⟩ (.slice an nn cn)).drew) :=
        (((((hx0.trans x1).setCell (p := ⟨w.heap.size, 0, none⟩) (.inr (Nat.le_refl _)) _).setCell (p := ⟨w.heap.size, 1, none⟩) (.inr (Nat.le_refl _)) _).setCell (p := ⟨w.heap.size, 2, none⟩) (.inr (Nat.le_refl _)) _).setCell (p := ⟨w.heap.size, 3, none⟩) (.inr (Nat.le_refl _)) _).drew
      have HV : Hid (Blk Rt.T ct w.heap.size ((((w1.setCell ⟨w.heap.size, 0, none⟩ (.slice a1 n1 c1)).setCell ⟨w.heap.size, 1, none⟩ (.int .i64 ct1.1)).setCell ⟨w.heap.size, 2, none⟩ (.int .i64 ct1.2)).setCell ⟨w.heap.size, 3, none⟩ (.slice an nn cn)).drew.heap.size ((((w1.setCell ⟨w.heap.size, 0, none⟩ (.slice a1 n1 c1)).setCell ⟨w.heap.size, 1, none⟩ (.int .i64 ct1.1)).setCell ⟨w.heap.size, 2, none⟩ (.int .i64 ct1.2)).setCell ⟨w.heap.size, 3, none⟩ (.slice an nn cn)).drew (.slice a1 n1 c1) xs ct1) :=
        Blk.mono Rt hv (by simp) (by simp [World.setCell]) (((((SameOn.refl _ _ _).setCell (p := ⟨w.heap.size, 0, none⟩) (.inl (by show w.heap.size < (w.alloc _).heap.size; simp)) _).setCell (p := ⟨w.heap.size, 1, none⟩) (.inl (by show w.heap.size < (w.alloc _).heap.size; simp)) _).setCell (p := ⟨w.heap.size, 2, none⟩) (.inl (by show w.heap.size < (w.alloc _).heap.size; simp)) _).setCell (p := ⟨w.heap.size, 3, none⟩) (.inl (by show w.heap.size < (w.alloc _).heap.size; simp)) _)
      have hnr : ∀ k, NumB w1.heap[k]? → k ≠ w.heap.size := fun k hk e => by
        rw [e, hnb] at hk
        exact not_num (by decide) hk
      have HR : Hid (((((w1.setCell ⟨w.heap.size, 0, none⟩ (.slice a1 n1 c1)).setCell ⟨w.heap.size, 1, none⟩ (.int .i64 ct1.1)).setCell ⟨w.heap.size, 2, none⟩ (.int .i64 ct1.2)).setCell ⟨w.heap.size, 3, none⟩ (.slice an nn cn)).drew.ownsRow (b + 1) 226 1 (.slice an nn cn) ns.length (numVals ns)) :=
        row_keep hN.row (fun k _ _ hkn => by
          have := hnr k hkn
          show ((((w1.setCell ⟨w.heap.size, 0, none⟩ (.slice a1 n1 c1)).setCell ⟨w.heap.size, 1, none⟩ (.int .i64 ct1.1)).setCell ⟨w.heap.size, 2, none⟩ (.int .i64 ct1.2)).setCell ⟨w.heap.size, 3, none⟩ (.slice an nn cn)).heap[k]? = _
          rw [Below.heap_setCell _ _ _ _ this, Below.heap_setCell _ _ _ _ this, Below.heap_setCell _ _ _ _ this, Below.heap_setCell _ _ _ _ this])
      have HL : Hid (Sp.Nums (Sp.skip s.data.toList) [] ns) := by rw [he] at hL; exact hL
      have Q0 : Hid (_ = _) := q0
      have Q1 : Hid (_ = _) := q1
      have Q2 : Hid (_ = _) := q2
      have Q3 : Hid (_ = _) := q3
      have hbn : b ≠ w.heap.size := by omega
      have C5 : (w1.setCell ⟨w.heap.size, 0, none⟩ (.slice a1 n1 c1)).cell? ⟨b, 5, none⟩ = some (.int .i64 ct1.1) := by
        rw [World.cell?_of_block (w := w1) (by rw [Below.heap_setCell _ _ _ _ hbn])]; exact c5
      have C6 : ((w1.setCell ⟨w.heap.size, 0, none⟩ (.slice a1 n1 c1)).setCell ⟨w.heap.size, 1, none⟩ (.int .i64 ct1.1)).cell? ⟨b, 6, none⟩ = some (.int .i64 ct1.2) := by
        rw [World.cell?_of_block (w := w1) (by rw [Below.heap_setCell _ _ _ _ hbn, Below.heap_setCell _ _ _ _ hbn])]; exact c6
      have C7 : (((w1.setCell ⟨w.heap.size, 0, none⟩ (.slice a1 n1 c1)).setCell ⟨w.heap.size, 1, none⟩ (.int .i64 ct1.1)).setCell ⟨w.heap.size, 2, none⟩ (.int .i64 ct1.2)).cell? ⟨b, 7, none⟩ = some (.slice an nn cn) := by
        rw [World.cell?_of_block (w := w1) (by rw [Below.heap_setCell _ _ _ _ hbn, Below.heap_setCell _ _ _ _ hbn, Below.heap_setCell _ _ _ _ hbn])]; exact c7
      clear hv q0 q1 q2 q3 hW hnb hN hL hnr
      go_wp2_with fail
      go_region_with (fail)
      all_goals
        go_wp2_with fail
        exact bodyPost_ret (v := .agg #[.slice a1 n1 c1, .int .i64 ct1.1, .int .i64 ct1.2, .slice an nn cn]) (by simp [results, Tryz.results58, go_sem, Q0.out, Q1.out, Q2.out, Q3.out]) rfl ⟨_, ct1, _, ns, rfl, HV.out, HX.out, HR.out, HL.out⟩
    · rw [if_neg he, show (Sp.bad 2 l1 : Except (Nat × Nat) (List A.T)) = .error (2, l1.length) from rfl]
      have hk : ¬ Sp.tokKind l1 = 1 := fun h => he (tokKind_end.1 h)
      go_enter Tryz.func58, Tryz.ntmps58
      go_wp2_with fail
      refine hc.mono ?_
      rintro e w1 ⟨v, rfl, ct1, hv, h1, x1⟩
      have c2 := h1.c2
      have n1 : ¬ (((Sp.tokKind l1 : Nat) : Int) = 1) := by omega
      have b1 : (((Sp.tokKind l1 : Nat) : Int) == 1) = false := by simpa using n1
      clear hv hk
      generalize Sp.tokKind l1 = kd at c2 n1 b1
      go_wp2_with fail
      refine (fault_calls h1 2).mono ?_
      rintro e w2 ⟨rfl, rfl⟩
      go_wp2_with fail
      exact ⟨rfl, Faulty.ahead (hx0.trans x1) (faulty_of h1 2 2 rfl)⟩

end Go.Proofs.YtiopfihjmkfdmaaGreatDoor
