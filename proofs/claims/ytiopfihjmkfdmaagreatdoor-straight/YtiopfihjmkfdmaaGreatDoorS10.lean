import Derived.Test.YtiopfihjmkfdmaaGreatDoorS9
import Derived.Defers
import Derived.Recover
namespace Go.Proofs.YtiopfihjmkfdmaaGreatDoor
open Go.RowKit
set_option maxRecDepth 100000
set_option maxHeartbeats 400000
theorem post_ahead {A : Sp.Alg} {Rp : Rep A} (Rt : RepT A Rp) {b : Nat} {s : ByteArray} {m1 m2 o : Nat} {ct : Int × Int} {w : World} {v0 : Value} {r : Sp.R A.T} (e : Ending) (w' : World)
  (h : StPost Rt b s m1 m2 o ct (w.setCell ⟨b, 5, none⟩ v0) r e w') : PostG (fun ct w' v x ct' => Rt.T ct w.heap.size w'.heap.size w' v x ct') b s m1 m2 o ct w r e w' := by
 have x : Ext b w (w.setCell ⟨b, 5, none⟩ v0) := (Ext.refl b w).setCell (p := ⟨b, 5, none⟩) (.inl rfl) _
 have hs : (w.setCell ⟨b, 5, none⟩ v0).heap.size = w.heap.size := by simp [World.setCell]
 unfold StPost at h
 cases r with
 | error er => exact Faulty.ahead x h
 | ok xl =>
  obtain ⟨v, rfl, ct', hv, h1, x1⟩ := h
  exact ⟨v, rfl, ct', by rw [hs] at hv; exact hv, h1, x.trans x1⟩
theorem statement_step {A : Sp.Alg} {Rp : Rep A} (Rt : RepT A Rp) (b : Nat) (s : ByteArray) (m1 m2 o n : Nat) (ho : o ≤ 12)
  (ih : o < 12 → StReads Rt 122 b s m1 m2 (o + 1) n (Sp.pStmt A n (o + 1))) : StReads Rt 122 b s m1 m2 o (n + 1) (Sp.pStmt A (n + 1) o) := by
 intro l ct w hl h hE
 have hblk : BlkReads Rt b s m1 m2 o (n + 1) (Sp.pBlock A (Sp.pStmt A n (o + 1)) o) := block_reads Rt b s m1 m2 o n ho _ (Sp.pStmt_lt n (o + 1)) ih
 have hbd : ∀ l x l1, Sp.pBlock A (Sp.pStmt A n (o + 1)) o l = .ok (x, l1) → l1.length ≤ l.length := fun l x l1 h => Nat.le_of_lt (Sp.pBlock_lt (Sp.pStmt_lt n (o + 1)) h)
 have hcd : ∀ c l1, Sp.pCond A o (Sp.next l) = .ok (c, l1) → l1.length < l.length := fun c l1 h => by have := Sp.pCond_lt h; have := Sp.next_le l; omega
 have h5 := h.c5
 have f5 := h.fz 5
 obtain ⟨hp, xp⟩ := rd_point h (RowKit.wrap64 (ct.1 + 1))
 have HP : Hid (Rd b s m1 m2 l o (ptUp ct) (w.setCell ⟨b, 5, none⟩ (.int .i64 (RowKit.wrap64 (ct.1 + 1))))) := hp
 have c3 := hp.c3
 have hE0 := hE.ext xp
 clear hp
 unfold Sp.pStmt
 by_cases t1 : Sp.tok l = Sp.wRead
 ·rw [if_pos t1]
  have c3' : (w.setCell ⟨b, 5, none⟩ (.int .i64 (RowKit.wrap64 (ct.1 + 1)))).cell? ⟨b, 3, none⟩ = some (.string ⟨#[114, 101, 97, 100]⟩) := by rw [c3, t1]; rfl
  have hc : Calls Tryz.prog 164 #[.pointer (some ⟨b, 0, none⟩), .int .i64 ct.1] (w.setCell ⟨b, 5, none⟩ (.int .i64 (RowKit.wrap64 (ct.1 + 1)))) (PostG (fun ct w' v x ct' => Rt.T ct w.heap.size w'.heap.size w' v x ct') b s m1 m2 o ct w (Sp.pRead A l)) := (read_calls Rt b s m1 m2 o l ct _ HP.out t1).mono (post_ahead Rt)
  clear c3 ih hblk hbd hcd
  generalize Sp.pRead A l = r at hc ⊢
  cases r with
  | error er =>
   go_enter Tryz.func122, Tryz.ntmps122
   go_wp2_with fail
   refine hc.mono ?_
   rintro e w1 ⟨N, rfl, hf⟩
   exact ⟨rfl, N, rfl, hf⟩
  | ok xl =>
   obtain ⟨x, l1⟩ := xl
   go_enter Tryz.func122, Tryz.ntmps122
   go_wp2_with fail
   refine hc.mono ?_
   rintro e w1 ⟨v, rfl, ct1, hv, h1, x1⟩
   go_wp2_with fail
   go_ret
   exact ⟨v, rfl, ct1, hv, h1, x1⟩
 ·rw [if_neg t1]
  have b1 : (Sp.tok l == [114, 101, 97, 100]) = false := tok_ne_beq t1
  by_cases t2 : Sp.tok l = Sp.wAssert
  ·rw [if_pos t2]
   have c3' : (w.setCell ⟨b, 5, none⟩ (.int .i64 (RowKit.wrap64 (ct.1 + 1)))).cell? ⟨b, 3, none⟩ = some (.string ⟨#[97, 115, 115, 101, 114, 116]⟩) := by rw [c3, t2]; rfl
   have hc : Calls Tryz.prog 165 #[.pointer (some ⟨b, 0, none⟩), .int .i64 ct.1] (w.setCell ⟨b, 5, none⟩ (.int .i64 (RowKit.wrap64 (ct.1 + 1)))) (PostG (fun ct w' v x ct' => Rt.T ct w.heap.size w'.heap.size w' v x ct') b s m1 m2 o ct w (Sp.pAssert A o l)) := (assert_calls Rt b s m1 m2 o ho l ct _ HP.out hE0 t2).mono (post_ahead Rt)
   clear c3 ih hblk hbd hcd b1
   generalize Sp.pAssert A o l = r at hc ⊢
   cases r with
   | error er =>
    go_enter Tryz.func122, Tryz.ntmps122
    go_wp2_with fail
    refine hc.mono ?_
    rintro e w1 ⟨N, rfl, hf⟩
    exact ⟨rfl, N, rfl, hf⟩
   | ok xl =>
    obtain ⟨x, l1⟩ := xl
    go_enter Tryz.func122, Tryz.ntmps122
    go_wp2_with fail
    refine hc.mono ?_
    rintro e w1 ⟨v, rfl, ct1, hv, h1, x1⟩
    go_wp2_with fail
    go_ret
    exact ⟨v, rfl, ct1, hv, h1, x1⟩
  ·rw [if_neg t2]
   have b2 : (Sp.tok l == [97, 115, 115, 101, 114, 116]) = false := tok_ne_beq t2
   by_cases t3 : Sp.tok l = Sp.wIf
   ·rw [if_pos t3]
    have c3' : (w.setCell ⟨b, 5, none⟩ (.int .i64 (RowKit.wrap64 (ct.1 + 1)))).cell? ⟨b, 3, none⟩ = some (.string ⟨#[105, 102]⟩) := by rw [c3, t3]; rfl
    have hc : Calls Tryz.prog 166 #[.pointer (some ⟨b, 0, none⟩), .int .i64 ct.1] (w.setCell ⟨b, 5, none⟩ (.int .i64 (RowKit.wrap64 (ct.1 + 1)))) (PostG (fun ct w' v x ct' => Rt.T ct w.heap.size w'.heap.size w' v x ct') b s m1 m2 o ct w (Sp.pIf A (fun l => Sp.pBlock A (Sp.pStmt A n (o + 1)) o l) o l)) := (branch_calls Rt b s m1 m2 o (n + 1) ho _ hblk hbd l ct _ (by omega) HP.out hE0 t3 hcd).mono (post_ahead Rt)
    clear c3 ih hblk hbd hcd b1 b2
    generalize Sp.pIf A (fun l => Sp.pBlock A (Sp.pStmt A n (o + 1)) o l) o l = r at hc ⊢
    cases r with
    | error er =>
     go_enter Tryz.func122, Tryz.ntmps122
     go_wp2_with fail
     refine hc.mono ?_
     rintro e w1 ⟨N, rfl, hf⟩
     exact ⟨rfl, N, rfl, hf⟩
    | ok xl =>
     obtain ⟨x, l1⟩ := xl
     go_enter Tryz.func122, Tryz.ntmps122
     go_wp2_with fail
     refine hc.mono ?_
     rintro e w1 ⟨v, rfl, ct1, hv, h1, x1⟩
     go_wp2_with fail
     go_ret
     exact ⟨v, rfl, ct1, hv, h1, x1⟩
   ·rw [if_neg t3]
    have b3 : (Sp.tok l == [105, 102]) = false := tok_ne_beq t3
    by_cases t4 : Sp.tok l = Sp.wWhile
    ·rw [if_pos t4]
     have c3' : (w.setCell ⟨b, 5, none⟩ (.int .i64 (RowKit.wrap64 (ct.1 + 1)))).cell? ⟨b, 3, none⟩ = some (.string ⟨#[119, 104, 105, 108, 101]⟩) := by rw [c3, t4]; rfl
     have hc : Calls Tryz.prog 167 #[.pointer (some ⟨b, 0, none⟩), .int .i64 ct.1] (w.setCell ⟨b, 5, none⟩ (.int .i64 (RowKit.wrap64 (ct.1 + 1)))) (PostG (fun ct w' v x ct' => Rt.T ct w.heap.size w'.heap.size w' v x ct') b s m1 m2 o ct w (Sp.pWhile A (fun l => Sp.pBlock A (Sp.pStmt A n (o + 1)) o l) o l)) := (loop_calls Rt b s m1 m2 o (n + 1) ho _ hblk l ct _ (by omega) HP.out hE0 t4 hcd).mono (post_ahead Rt)
     clear c3 ih hblk hbd hcd b1 b2 b3
     generalize Sp.pWhile A (fun l => Sp.pBlock A (Sp.pStmt A n (o + 1)) o l) o l = r at hc ⊢
     cases r with
     | error er =>
      go_enter Tryz.func122, Tryz.ntmps122
      go_wp2_with fail
      refine hc.mono ?_
      rintro e w1 ⟨N, rfl, hf⟩
      exact ⟨rfl, N, rfl, hf⟩
     | ok xl =>
      obtain ⟨x, l1⟩ := xl
      go_enter Tryz.func122, Tryz.ntmps122
      go_wp2_with fail
      refine hc.mono ?_
      rintro e w1 ⟨v, rfl, ct1, hv, h1, x1⟩
      go_wp2_with fail
      go_ret
      exact ⟨v, rfl, ct1, hv, h1, x1⟩
    ·rw [if_neg t4]
     have b4 : (Sp.tok l == [119, 104, 105, 108, 101]) = false := tok_ne_beq t4
     have hc : Calls Tryz.prog 168 #[.pointer (some ⟨b, 0, none⟩), .int .i64 ct.1] (w.setCell ⟨b, 5, none⟩ (.int .i64 (RowKit.wrap64 (ct.1 + 1)))) (PostG (fun ct w' v x ct' => Rt.T ct w.heap.size w'.heap.size w' v x ct') b s m1 m2 o ct w (Sp.pAssign A o l)) := (assign_calls Rt b s m1 m2 o ho l ct _ HP.out hE0).mono (post_ahead Rt)
     clear ih hblk hbd hcd t1 t2 t3 t4
     generalize Sp.pAssign A o l = r at hc ⊢
     cases r with
     | error er =>
      go_enter Tryz.func122, Tryz.ntmps122
      go_wp2_with fail
      refine hc.mono ?_
      rintro e w1 ⟨N, rfl, hf⟩
      exact ⟨rfl, N, rfl, hf⟩
     | ok xl =>
      obtain ⟨x, l1⟩ := xl
      go_enter Tryz.func122, Tryz.ntmps122
      go_wp2_with fail
      refine hc.mono ?_
      rintro e w1 ⟨v, rfl, ct1, hv, h1, x1⟩
      go_wp2_with fail
      go_ret
      exact ⟨v, rfl, ct1, hv, h1, x1⟩
theorem statement_reads {A : Sp.Alg} {Rp : Rep A} (Rt : RepT A Rp) (b : Nat) (s : ByteArray) (m1 m2 : Nat) : ∀ (n o : Nat), o ≤ 12 → StReads Rt 122 b s m1 m2 o n (Sp.pStmt A n o)
 | 0, _, _ => fun l _ _ hl _ _ => absurd hl (Nat.not_lt_zero _)
 | n + 1, o, ho => statement_step Rt b s m1 m2 o n ho (fun h => statement_reads Rt b s m1 m2 n (o + 1) (by omega))
end Go.Proofs.YtiopfihjmkfdmaaGreatDoor
namespace Go.Proofs.YtiopfihjmkfdmaaGreatDoor
open Go.RowKit
set_option maxRecDepth 100000
set_option maxHeartbeats 400000
theorem tokKind_end {l : Sp.Bs} : Sp.tokKind l = 1 ↔ l = [] := by
 cases l with
 | nil => simp [Sp.tokKind]
 | cons c r =>
  rw [Sp.tokKind_cons]
  constructor
  ·intro h
   split at h
   ·omega
   ·split at h
    ·omega
    ·split at h <;> omega
  ·intro h; cases h
theorem row_slice0 {w : World} {base : Nat} {e : TypeId} {sz : Nat} {v : Value} {n : Nat} {vs : List Value} (h : w.ownsRow base e sz v n vs) : ∃ a m c, v = .slice a m c := by
 rcases h.2 with ⟨rfl, _⟩ | ⟨g, cap, cur, rfl, _⟩
 ·exact ⟨_, _, _, rfl⟩
 ·exact ⟨_, _, _, rfl⟩
theorem program_calls {A : Sp.Alg} {Rp : Rep A} (Rt : RepT A Rp) (b : Nat) (s : ByteArray) (m1 m2 : Nat) (l : Sp.Bs) (ct : Int × Int) (w : World) (h : Rd b s m1 m2 l 0 ct w) (hE : Env b m1 m2 w) :
  Calls Tryz.prog 58 #[.pointer (some ⟨b, 0, none⟩)] w fun e w' => match Sp.pProg A l with
   | .ok xs => ∃ v ct' nv ns, e = .returned (.agg #[v, .int .i64 ct'.1, .int .i64 ct'.2, nv]) ∧ Blk Rt.T ct w.heap.size w'.heap.size w' v xs ct' ∧ Ext b w w' ∧ w'.ownsRow (b + 1) 226 1 nv ns.length (numVals ns) ∧ Sp.Nums (Sp.skip s.data.toList) [] ns
   | .error er => Faulty s b w er e w' := by
 have hlt := h.lt
 have hx0 : Ext b w (w.alloc (.cells #[.slice none 0 0, .int .i64 0, .int .i64 0, .slice none 0 0] 86)) := (Ext.refl b w).alloc _
 have hc := statements_calls Rt b s m1 m2 0 (l.length + 1) (Sp.pStmt A (l.length + 1) 0) (Sp.pStmt_lt _ _) (statement_reads Rt b s m1 m2 (l.length + 1) 0 (by omega)) l ct (w.alloc (.cells #[.slice none 0 0, .int .i64 0, .int .i64 0, .slice none 0 0] 86)) (Nat.lt_succ_self _) (h.ext _) (hE.ext hx0)
 unfold Sp.pProg
 cases hr : Sp.pMany A (Sp.pStmt A (l.length + 1) 0) (l.length + 1) [] l with
 | error er =>
  rw [hr] at hc
  go_enter Tryz.func58, Tryz.ntmps58
  go_wp2_with fail
  refine hc.mono ?_
  rintro e w1 ⟨N, rfl, hf⟩
  exact ⟨rfl, Faulty.ahead hx0 ⟨N, rfl, hf⟩⟩
 | ok xl =>
  obtain ⟨xs, l1⟩ := xl
  rw [hr] at hc
  simp only
  by_cases he : l1 = []
  ·rw [if_pos he]
   have hk := tokKind_end.2 he
   go_enter Tryz.func58, Tryz.ntmps58
   go_wp2_with fail
   refine hc.mono ?_
   rintro e w1 ⟨v, rfl, ct1, hv, h1, x1⟩
   have c2 : w1.cell? ⟨b, 2, none⟩ = some (.int .i64 1) := by rw [h1.c2, hk]; rfl
   obtain ⟨a1, n1, c1, rfl⟩ := blk_slice hv
   have hnb := new_block x1 hlt
   have k0 := cell_of hnb 0 (v := .slice none 0 0) rfl
   have k1 := cell_of hnb 1 (v := .int .i64 0) rfl
   have k2 := cell_of hnb 2 (v := .int .i64 0) rfl
   have k3 := cell_of hnb 3 (v := .slice none 0 0) rfl
   have f0 := frozen_of hnb 0
   have f1 := frozen_of hnb 1
   have f2 := frozen_of hnb 2
   have f3 := frozen_of hnb 3
   have c5 := h1.c5
   have c6 := h1.c6
   obtain ⟨nv, ns, hN, hL⟩ := h1
   obtain ⟨an, nn, cn, rfl⟩ := row_slice0 hN.row
   have c7 : w1.cell? ⟨b, 7, none⟩ = some (.slice an nn cn) := cell_of hN.blk 7 rfl
   have hW := heap_setCell_at (heap_setCell_at (heap_setCell_at (heap_setCell_at hnb 0 (.slice a1 n1 c1)) 1 (.int .i64 ct1.1)) 2 (.int .i64 ct1.2)) 3 (.slice an nn cn)
   have q0 := cell_of hW 0 (v := .slice a1 n1 c1) rfl
   have q1 := cell_of hW 1 (v := .int .i64 ct1.1) rfl
   have q2 := cell_of hW 2 (v := .int .i64 ct1.2) rfl
   have q3 := cell_of hW 3 (v := .slice an nn cn) rfl
   have HX : Hid (Ext b w ((((w1.setCell ⟨w.heap.size, 0, none⟩ (.slice a1 n1 c1)).setCell ⟨w.heap.size, 1, none⟩ (.int .i64 ct1.1)).setCell ⟨w.heap.size, 2, none⟩ (.int .i64 ct1.2)).setCell ⟨w.heap.size, 3, none⟩ (.slice an nn cn)).drew) :=
    (((((hx0.trans x1).setCell (p := ⟨w.heap.size, 0, none⟩) (.inr (Nat.le_refl _)) _).setCell (p := ⟨w.heap.size, 1, none⟩) (.inr (Nat.le_refl _)) _).setCell (p := ⟨w.heap.size, 2, none⟩) (.inr (Nat.le_refl _)) _).setCell (p := ⟨w.heap.size, 3, none⟩) (.inr (Nat.le_refl _)) _).drew
   have HV : Hid (Blk Rt.T ct w.heap.size ((((w1.setCell ⟨w.heap.size, 0, none⟩ (.slice a1 n1 c1)).setCell ⟨w.heap.size, 1, none⟩ (.int .i64 ct1.1)).setCell ⟨w.heap.size, 2, none⟩ (.int .i64 ct1.2)).setCell ⟨w.heap.size, 3, none⟩ (.slice an nn cn)).drew.heap.size ((((w1.setCell ⟨w.heap.size, 0, none⟩ (.slice a1 n1 c1)).setCell ⟨w.heap.size, 1, none⟩ (.int .i64 ct1.1)).setCell ⟨w.heap.size, 2, none⟩ (.int .i64 ct1.2)).setCell ⟨w.heap.size, 3, none⟩ (.slice an nn cn)).drew (.slice a1 n1 c1) xs ct1) :=
    Blk.mono Rt hv (by simp) (by simp [World.setCell]) (((((SameOn.refl _ _ _).setCell (p := ⟨w.heap.size, 0, none⟩) (.inl (by show w.heap.size < (w.alloc _).heap.size; simp)) _).setCell (p := ⟨w.heap.size, 1, none⟩) (.inl (by show w.heap.size < (w.alloc _).heap.size; simp)) _).setCell (p := ⟨w.heap.size, 2, none⟩) (.inl (by show w.heap.size < (w.alloc _).heap.size; simp)) _).setCell (p := ⟨w.heap.size, 3, none⟩) (.inl (by show w.heap.size < (w.alloc _).heap.size; simp)) _)
   have hnr : ∀ k, NumB w1.heap[k]? → k ≠ w.heap.size := fun k hk e => by
    rw [e, hnb] at hk
    exact not_num (by decide) hk
   have HR : Hid (((((w1.setCell ⟨w.heap.size, 0, none⟩ (.slice a1 n1 c1)).setCell ⟨w.heap.size, 1, none⟩ (.int .i64 ct1.1)).setCell ⟨w.heap.size, 2, none⟩ (.int .i64 ct1.2)).setCell ⟨w.heap.size, 3, none⟩ (.slice an nn cn)).drew.ownsRow (b + 1) 226 1 (.slice an nn cn) ns.length (numVals ns)) :=
    row_keep hN.row (fun k _ _ hkn => by
     have := hnr k hkn
     show ((((w1.setCell ⟨w.heap.size, 0, none⟩ (.slice a1 n1 c1)).setCell ⟨w.heap.size, 1, none⟩ (.int .i64 ct1.1)).setCell ⟨w.heap.size, 2, none⟩ (.int .i64 ct1.2)).setCell ⟨w.heap.size, 3, none⟩ (.slice an nn cn)).heap[k]? = _
     rw [Below.heap_setCell _ _ _ _ this, Below.heap_setCell _ _ _ _ this, Below.heap_setCell _ _ _ _ this, Below.heap_setCell _ _ _ _ this])
   have HL : Hid (Sp.Nums (Sp.skip s.data.toList) [] ns) := by rw [he] at hL; exact hL
   have Q0 : Hid (_ = _) := q0
   have Q1 : Hid (_ = _) := q1
   have Q2 : Hid (_ = _) := q2
   have Q3 : Hid (_ = _) := q3
   have hbn : b ≠ w.heap.size := by omega
   have C5 : (w1.setCell ⟨w.heap.size, 0, none⟩ (.slice a1 n1 c1)).cell? ⟨b, 5, none⟩ = some (.int .i64 ct1.1) := by
    rw [World.cell?_of_block (w := w1) (by rw [Below.heap_setCell _ _ _ _ hbn])]; exact c5
   have C6 : ((w1.setCell ⟨w.heap.size, 0, none⟩ (.slice a1 n1 c1)).setCell ⟨w.heap.size, 1, none⟩ (.int .i64 ct1.1)).cell? ⟨b, 6, none⟩ = some (.int .i64 ct1.2) := by
    rw [World.cell?_of_block (w := w1) (by rw [Below.heap_setCell _ _ _ _ hbn, Below.heap_setCell _ _ _ _ hbn])]; exact c6
   have C7 : (((w1.setCell ⟨w.heap.size, 0, none⟩ (.slice a1 n1 c1)).setCell ⟨w.heap.size, 1, none⟩ (.int .i64 ct1.1)).setCell ⟨w.heap.size, 2, none⟩ (.int .i64 ct1.2)).cell? ⟨b, 7, none⟩ = some (.slice an nn cn) := by
    rw [World.cell?_of_block (w := w1) (by rw [Below.heap_setCell _ _ _ _ hbn, Below.heap_setCell _ _ _ _ hbn, Below.heap_setCell _ _ _ _ hbn])]; exact c7
   clear hv q0 q1 q2 q3 hW hnb hN hL hnr
   go_wp2_with fail
   go_region_with (fail)
   all_goals
    go_wp2_with fail
    exact bodyPost_ret (v := .agg #[.slice a1 n1 c1, .int .i64 ct1.1, .int .i64 ct1.2, .slice an nn cn]) (by simp [results, Tryz.results58, go_sem, Q0.out, Q1.out, Q2.out, Q3.out]) rfl ⟨_, ct1, _, ns, rfl, HV.out, HX.out, HR.out, HL.out⟩
  ·rw [if_neg he, show (Sp.bad 2 l1 : Except (Nat × Nat) (List A.T)) = .error (2, l1.length) from rfl]
   have hk : ¬ Sp.tokKind l1 = 1 := fun h => he (tokKind_end.1 h)
   go_enter Tryz.func58, Tryz.ntmps58
   go_wp2_with fail
   refine hc.mono ?_
   rintro e w1 ⟨v, rfl, ct1, hv, h1, x1⟩
   have c2 := h1.c2
   have n1 : ¬ (((Sp.tokKind l1 : Nat) : Int) = 1) := by omega
   have b1 : (((Sp.tokKind l1 : Nat) : Int) == 1) = false := by simpa using n1
   clear hv hk
   generalize Sp.tokKind l1 = kd at c2 n1 b1
   go_wp2_with fail
   refine (fault_calls h1 2).mono ?_
   rintro e w2 ⟨rfl, rfl⟩
   go_wp2_with fail
   exact ⟨rfl, Faulty.ahead (hx0.trans x1) (faulty_of h1 2 2 rfl)⟩
end Go.Proofs.YtiopfihjmkfdmaaGreatDoor
namespace Go.Proofs.YtiopfihjmkfdmaaGreatDoor
open Go.RowKit
set_option maxRecDepth 100000
set_option maxHeartbeats 400000
theorem catch_idle (p q : Addr) (w : World) :
  CallsD Tryz.prog 54 #[.pointer (some p), .pointer (some q)] .returning w fun e u' w' => e = .returned (.tuple #[]) ∧ u' = .returning ∧ w' = w := by
 refine callsD_of_wpS Tryz.func54 rfl fun c₀ cs hu => ?_
 apply wpS_seq
 apply wpS_region
 simp [wpOpsS, go_sem, recoverD, hu, Tryz.ntmps54, Exit.thenS]
 refine wpS_of_wp ?_
 go_wp2_with fail
 cases c₀
 simp_all [bodyPostS, results, Tryz.results54]
theorem assert_fault (a : Addr) (w : World) : (Instr.typeAssert (.iface 90 (.pointer (some a))) 20 90 true).run Tryz.prog w = .ok (.tuple #[.pointer (some a), .bool true]) w := by kernel_rfl
theorem catch_panicking (P Q : Nat) (a : Addr) (w : World) (v0 v1 v3 v4 v2 : Value) (hp : w.cell? ⟨P, 0, none⟩ = some v0) (hp1 : w.cell? ⟨P, 1, none⟩ = some v1) (hp2 : w.cell? ⟨P, 2, none⟩ = some v3) (hp3 : w.cell? ⟨P, 3, none⟩ = some v4) (fp : w.frozen? ⟨P, 0, none⟩ = false) (fp1 : w.frozen? ⟨P, 1, none⟩ = false) (fp2 : w.frozen? ⟨P, 2, none⟩ = false) (fp3 : w.frozen? ⟨P, 3, none⟩ = false) (hq : w.cell? ⟨Q, 0, none⟩ = some v2) (fq : w.frozen? ⟨Q, 0, none⟩ = false) (hpq : P ≠ Q) :
  CallsD Tryz.prog 54 #[.pointer (some ⟨P, 0, none⟩), .pointer (some ⟨Q, 0, none⟩)] (.panicking [{ v := .iface 90 (.pointer (some a)), recovered := false }]) w fun e u' w' =>
   e = .returned (.tuple #[]) ∧ u' = .panicking [{ v := .iface 90 (.pointer (some a)), recovered := true }] ∧ w' = ((((w.setCell ⟨P, 0, none⟩ (.slice none 0 0)).setCell ⟨P, 1, none⟩ (.int .i64 0)).setCell ⟨P, 2, none⟩ (.int .i64 0)).setCell ⟨P, 3, none⟩ (.slice none 0 0)).setCell ⟨Q, 0, none⟩ (.iface 90 (.pointer (some a))) := by
 have hta := assert_fault a
 have hq2 : ((((w.setCell ⟨P, 0, none⟩ (.slice none 0 0)).setCell ⟨P, 1, none⟩ (.int .i64 0)).setCell ⟨P, 2, none⟩ (.int .i64 0)).setCell ⟨P, 3, none⟩ (.slice none 0 0)).cell? ⟨Q, 0, none⟩ = some v2 := by
  rw [World.cell?_of_block (w := w) (by rw [Below.heap_setCell _ _ _ _ (fun e => hpq e.symm), Below.heap_setCell _ _ _ _ (fun e => hpq e.symm), Below.heap_setCell _ _ _ _ (fun e => hpq e.symm), Below.heap_setCell _ _ _ _ (fun e => hpq e.symm)])]; exact hq
 have fq2 : ((((w.setCell ⟨P, 0, none⟩ (.slice none 0 0)).setCell ⟨P, 1, none⟩ (.int .i64 0)).setCell ⟨P, 2, none⟩ (.int .i64 0)).setCell ⟨P, 3, none⟩ (.slice none 0 0)).frozen? ⟨Q, 0, none⟩ = false := by
  rw [World.frozen?_of_block (w := w) (by rw [Below.heap_setCell _ _ _ _ (fun e => hpq e.symm), Below.heap_setCell _ _ _ _ (fun e => hpq e.symm), Below.heap_setCell _ _ _ _ (fun e => hpq e.symm), Below.heap_setCell _ _ _ _ (fun e => hpq e.symm)])]; exact fq
 refine callsD_of_wpS Tryz.func54 rfl fun c₀ cs hu => ?_
 apply wpS_seq
 apply wpS_region
 simp [wpOpsS, go_sem, recoverD, hu, Tryz.ntmps54, Exit.thenS]
 refine wpS_of_wp ?_
 change Code.wp _ _ _ { tmps := #[.pointer (some ⟨P, 0, none⟩), .pointer (some ⟨Q, 0, none⟩), undef, undef, undef, .iface 90 (.pointer (some a)), undef, undef, undef, undef, undef, undef, undef, undef], defers := [] } _
 go_wp2_with fail
 simp [bodyPostS, results, Tryz.results54]
end Go.Proofs.YtiopfihjmkfdmaaGreatDoor
