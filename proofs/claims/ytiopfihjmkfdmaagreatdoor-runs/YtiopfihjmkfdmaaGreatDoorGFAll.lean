/- THE DOCUMENT'S ANSWER: statement. -/
import Derived.Test.YtiopfihjmkfdmaaGreatDoorGFAssign
import Derived.Test.YtiopfihjmkfdmaaGreatDoorGFAssert
import Derived.Test.YtiopfihjmkfdmaaGreatDoorGFWhile
import Derived.Test.YtiopfihjmkfdmaaGreatDoorGFIf
namespace Go.Proofs.YtiopfihjmkfdmaaGreatDoor
open Go.RowKit
open Sp (Sm Bl Ct Tr)

theorem pStmt_gen (A : Sp.Alg) (n o : Nat) (l : Sp.Bs) : Sp.pStmt A (n + 1) o l = (if Sp.tok l = Sp.wRead then Sp.pRead A l
    else if Sp.tok l = Sp.wAssert then Sp.pAssert A o l
    else if Sp.tok l = Sp.wIf then Sp.pIf A (fun l => Sp.pBlock A (Sp.pStmt A n (o + 1)) o l) o l
    else if Sp.tok l = Sp.wWhile then Sp.pWhile A (fun l => Sp.pBlock A (Sp.pStmt A n (o + 1)) o l) o l
    else Sp.pAssign A o l) := by
  rw [Sp.pStmt]

theorem post_cast {base b pb : Nat} {s : ByteArray} {o : Nat} {p : FP} {l : Sp.Bs} {w : World} {r r' : Sp.R (Bl → Bl)} {f : FuncId} {a : Array Value} (e : r = r') (h : Calls Tryz.prog f a w (FPostT base b pb s o p l w r)) : Calls Tryz.prog f a w (FPostT base b pb s o p l w r') := by rw [← e]; exact h

theorem fstmt_reads (base b pb : Nat) (s : ByteArray) : ∀ (n o : Nat), o ≤ 12 → FReadsT base b pb s o n (Sp.pStmt Tr n o)
  | 0, o, _ => fun l p w hl => absurd hl (Nat.not_lt_zero _)
  | n + 1, o, ho => by
    intro l p w hl h hlim hb
    have hdec : ∀ l (f : Bl → Bl) l1, Sp.pStmt Tr n (o + 1) l = .ok (f, l1) → l1.length < l.length := fun l f l1 e => Sp.pStmt_lt (A := Tr) n (o + 1) l f l1 e
    have hbk : ∀ l, Sp.pBlock Tr (Sp.pStmt Tr n (o + 1)) o l = fBlock Tr (Sp.pStmt Tr n (o + 1)) o l := fun l => block_eq Tr _ (fun l h => stmt_not_begins Tr n (o + 1) h) hdec o l
    have hr : o < 12 → FReadsT base b pb s (o + 1) n (Sp.pStmt Tr n (o + 1)) := fun h => fstmt_reads base b pb s n (o + 1) (by omega)
    have e := pStmt_gen Tr n o l
    by_cases t1 : Sp.tok l = Sp.wRead
    · rw [if_pos t1] at e
      exact post_cast e.symm (fread_calls base b pb s o l p w h hlim t1)
    · rw [if_neg t1] at e
      by_cases t2 : Sp.tok l = Sp.wAssert
      · rw [if_pos t2] at e
        exact post_cast e.symm (fassert_calls base b pb s o ho l p w h hlim t2)
      · rw [if_neg t2] at e
        by_cases t3 : Sp.tok l = Sp.wIf
        · rw [if_pos t3] at e
          exact post_cast e.symm (fif_calls base b pb s o n ho _ hdec hr hbk l p w hl h hlim t3)
        · rw [if_neg t3] at e
          by_cases t4 : Sp.tok l = Sp.wWhile
          · rw [if_pos t4] at e
            exact post_cast e.symm (fwhile_calls base b pb s o n ho _ hdec hr hbk l p w hl h hlim t4)
          · rw [if_neg t4] at e
            refine post_cast e.symm (fassign_calls base b pb s o ho l p w h hlim ?_)
            intro hv
            simp [fBegins, hv, t1, t2, t3, t4] at hb

end Go.Proofs.YtiopfihjmkfdmaaGreatDoor

/- THE DOCUMENT'S ANSWER: what is read, by steps (plain). -/
namespace Go.Proofs.YtiopfihjmkfdmaaGreatDoor
open Go.RowKit
open Sp (Sm Bl Ct Tr)
set_option maxRecDepth 100000
set_option maxHeartbeats 8000000

theorem parse_gen (A : Sp.Alg) (src : Sp.Bs) (h : ¬ 400 < src.length) : Sp.parse A src = (match fMany A (Sp.pStmt A ((Sp.skip src).length + 1) 0) ((Sp.skip src).length + 1) [] (Sp.skip src) with
    | .ok (fs, l1) => if l1 = [] then .ok fs else .error (2, src.length - l1.length)
    | .error e => .error (e.1, src.length - e.2)) := by
  unfold Sp.parse
  rw [if_neg h, prog_eq]
  rcases fMany A (Sp.pStmt A ((Sp.skip src).length + 1) 0) ((Sp.skip src).length + 1) [] (Sp.skip src) with e | ⟨fs, l1⟩
  · rfl
  · simp only
    by_cases hl : l1 = []
    · rw [if_pos hl, if_pos hl]
    · rw [if_neg hl, if_neg hl]; rfl

theorem tree_long {src : Sp.Bs} (h : 400 < src.length) : Sp.tree src = .error (1, 0) := by
  unfold Sp.tree Sp.parse
  rw [if_pos h]
theorem tree_ok {src : Sp.Bs} (h : ¬ 400 < src.length) {fs : List (Bl → Bl)} (e : fMany Tr (Sp.pStmt Tr ((Sp.skip src).length + 1) 0) ((Sp.skip src).length + 1) [] (Sp.skip src) = .ok (fs, [])) : Sp.tree src = .ok (Sp.joinB fs) := by
  unfold Sp.tree
  rw [parse_gen Tr src h, e]; rfl
theorem tree_left {src : Sp.Bs} (h : ¬ 400 < src.length) {fs : List (Bl → Bl)} {l1 : Sp.Bs} (hl : l1 ≠ []) (e : fMany Tr (Sp.pStmt Tr ((Sp.skip src).length + 1) 0) ((Sp.skip src).length + 1) [] (Sp.skip src) = .ok (fs, l1)) : Sp.tree src = .error (2, src.length - l1.length) := by
  unfold Sp.tree
  rw [parse_gen Tr src h, e]
  simp only
  rw [if_neg hl]
theorem tree_bad {src : Sp.Bs} (h : ¬ 400 < src.length) {er : Nat × Nat} (e : fMany Tr (Sp.pStmt Tr ((Sp.skip src).length + 1) 0) ((Sp.skip src).length + 1) [] (Sp.skip src) = .error er) : Sp.tree src = .error (er.1, src.length - er.2) := by
  unfold Sp.tree
  rw [parse_gen Tr src h, e]


end Go.Proofs.YtiopfihjmkfdmaaGreatDoor

/- THE DOCUMENT'S ANSWER: Read, its start. -/
namespace Go.Proofs.YtiopfihjmkfdmaaGreatDoor
open Go.RowKit
open Sp (Sm Bl Ct Tr)
set_option maxRecDepth 100000
set_option maxHeartbeats 8000000

/-- a program that was read -/
def FProg (base pb : Nat) (t : Bl) (w : World) : Prop :=
  ∃ (p : FP) (first : Int) (ct : Ct), w.heap[pb]? = some (.cells (fpCells p first) 105) ∧ w.ownsRow base 176 10 p.nv p.ns.length (fCells p.ns) ∧ w.ownsRow base 3 1 p.qv p.qs.length (p.qs.map fun n => .int .i64 n) ∧
    p.ns.length ≤ 2000 ∧ p.qs.length ≤ 2000 ∧ FBl p.ns 0 p.ns.length t first (0, 0) ct ∧ p.ct = Sp.ptUp ct ∧ In64 ct.1 ∧ p.qs = numsB t

def FReadPost (s : ByteArray) (w : World) (e : Ending) (w' : World) : Prop := Below w.heap.size w w' ∧ match Sp.tree s.data.toList with
  | .ok t => ∃ pb, e = .returned (.tuple #[.pointer (some ⟨pb, 0, none⟩), .int .i64 0, .int .i64 0]) ∧ w.heap.size ≤ pb ∧ FProg w.heap.size pb t w'
  | .error er => e = .returned (.tuple #[.pointer none, .int .i64 er.1, .int .i64 er.2])

def fp0 : FP := { ns := [], ct := (0, 0), qs := [], nv := .slice none 0 0, qv := .slice none 0 0 }

theorem fp_first {w : World} {pb : Nat} {p : FP} {first : Int} (h : w.heap[pb]? = some (.cells (fpCells p first) 105)) (n : Int) : (w.setCell ⟨pb, 1, none⟩ (.int .i64 n)).heap[pb]? = some (.cells (fpCells p n) 105) := by
  rw [heap_setCell_at h 1 (.int .i64 n)]; rfl

theorem fRead_start (w : World) (s : ByteArray) (hs : s.size ≤ 400) {w1 w3 : World} (hw1 : w1 = (w.alloc (.cells (fpCells fp0 0) 105)).alloc (.cells (frCells s 0 0 ByteArray.empty w.heap.size 0 0) 174)) (hx : Ext0 (w.heap.size + 1) w1 w3)
    (hb : w3.heap[w.heap.size + 1]? = some (.cells (frCells s ((s.size - (Sp.skip s.data.toList).length + Sp.tokLen (Sp.skip s.data.toList) : Nat) : Int) ((s.size - (Sp.skip s.data.toList).length : Nat) : Int) ⟨(Sp.tok (Sp.skip s.data.toList)).toArray⟩ w.heap.size 0 0) 174)) :
    FR w.heap.size (w.heap.size + 1) w.heap.size s (Sp.skip s.data.toList) 0 fp0 w3 ∧ Below w.heap.size w w3 := by
  have h1 : w1.heap.size = w.heap.size + 2 := by subst hw1; simp
  have hp : w1.heap[w.heap.size]? = some (.cells (fpCells fp0 0) 105) := by
    subst hw1
    rw [Below.heap_alloc _ _ _ (by simp)]
    exact heap_alloc_new _ _
  have hbl : Below w.heap.size w w1 := by
    subst hw1
    exact ((Below.refl _ _).alloc (Nat.le_refl _) _).alloc (by simp) _
  refine ⟨⟨hb, ⟨?_, World.ownsRow_nil _ _ _ _, World.ownsRow_nil _ _ _ _, Nat.le_refl _, by simp [fp0], by simp [fp0]⟩, Sp.skip_suffix _, hs, by omega, by omega⟩, ?_⟩
  · rw [hx.block _ (by omega) (by omega)]; exact hp
  · refine ⟨hx.os.trans hbl.os, hx.tape.trans hbl.tape, hx.output.trans hbl.output, by have := hx.size; have := hbl.size; omega, fun k hk => ?_⟩
    rw [hx.block k (by omega) (by omega)]
    exact hbl.block k hk


end Go.Proofs.YtiopfihjmkfdmaaGreatDoor

/- THE DOCUMENT'S ANSWER: Read. -/
namespace Go.Proofs.YtiopfihjmkfdmaaGreatDoor
open Go.RowKit
open Sp (Sm Bl Ct Tr)
set_option maxRecDepth 100000
set_option maxHeartbeats 8000000

theorem fRead_block (w : World) (s : ByteArray) : ((w.alloc (.cells (fpCells fp0 0) 105)).alloc (.cells (frCells s ((0 : Nat) : Int) 0 ⟨#[]⟩ w.heap.size 0 0) 174)).heap[w.heap.size + 1]? = some (.cells (frCells s ((0 : Nat) : Int) 0 ⟨#[]⟩ w.heap.size 0 0) 174) := by
  have h := heap_alloc_new (w.alloc (.cells (fpCells fp0 0) 105)) (.cells (frCells s ((0 : Nat) : Int) 0 ⟨#[]⟩ w.heap.size 0 0) 174)
  rw [show (w.alloc (.cells (fpCells fp0 0) 105)).heap.size = w.heap.size + 1 by simp] at h
  exact h

theorem fRead_first (w : World) (s : ByteArray) (hs : s.size ≤ 400) : Calls Tryz.prog 65 #[.pointer (some ⟨w.heap.size + 1, 0, none⟩)] ((w.alloc (.cells #[.slice none 0 0, .int .i64 0, .int .i64 0, .int .i64 0, .slice none 0 0] 105)).alloc (.cells #[.string s, .int .i64 0, .int .i64 0, .string ⟨#[]⟩, .pointer (some ⟨w.heap.size, 0, none⟩), .int .i64 0, .int .i64 0] 174))
    fun e w' => e = .returned (.tuple #[]) ∧ FR w.heap.size (w.heap.size + 1) w.heap.size s (Sp.skip s.data.toList) 0 fp0 w' ∧ Below w.heap.size w w' := by
  refine (fstep_calls (w := (w.alloc (.cells (fpCells fp0 0) 105)).alloc (.cells (frCells s ((0 : Nat) : Int) 0 ⟨#[]⟩ w.heap.size 0 0) 174)) 0 (fRead_block w s) (Nat.zero_le _) hs).mono ?_
  rintro e w3 ⟨rfl, hb, hx⟩
  rw [List.drop_zero] at hb
  exact ⟨rfl, fRead_start w s hs rfl hx hb⟩

theorem wrong_blk {w : World} {b pb : Nat} {s t : ByteArray} {i a o : Int} (hb : w.heap[b]? = some (.cells (frCells s i a t pb o 0) 174)) :
    Calls Tryz.prog 67 #[.pointer (some ⟨b, 0, none⟩), .int .i64 2] w fun e w' => e = .returned (.tuple #[]) ∧ w' = w.setCell ⟨b, 6, none⟩ (.int .i64 2) := by
  have c6 := cell_of hb 6 (v := .int .i64 0) rfl
  have f6 := frozen_of hb 6
  go_enter Tryz.func67, Tryz.ntmps67
  go_wp2_with fail
  go_end0
  exact ⟨rfl, rfl⟩

/-- behind the statements: what was read, and its first statement -/
def RCut (w : World) (s : ByteArray) (fin : Sp.R (List (Bl → Bl))) (wd : World) : Prop :=
  ∃ (k : Int) (p' : FP) (w4 : World), FX w.heap.size (w.heap.size + 1) w.heap.size s (left fin) ((0 : Nat) : Int) p' w4 ∧ FGotB fp0 p' (Sp.skip s.data.toList) k fin ∧ Below w.heap.size w w4 ∧ wd = w4.setCell ⟨w.heap.size, 1, none⟩ (.int .i64 k)

theorem lim0 (l : Sp.Bs) (h : l.length ≤ 400) : FLim fp0 l := by
  refine ⟨?_, ?_, ?_⟩
  · show 0 + 2 * l.length ≤ 2000; omega
  · show 0 + l.length ≤ 2000; omega
  · unfold In64; show (-9223372036854775808 : Int) ≤ 0 ∧ (0 : Int) ≤ 9223372036854775807; omega

def finOf (s : ByteArray) : Sp.R (List (Bl → Bl)) := fMany Tr (Sp.pStmt Tr ((Sp.skip s.data.toList).length + 1) 0) ((Sp.skip s.data.toList).length + 1) [] (Sp.skip s.data.toList)

theorem rcut_stmts {w w3 : World} {s : ByteArray} (hfr : FR w.heap.size (w.heap.size + 1) w.heap.size s (Sp.skip s.data.toList) 0 fp0 w3) :
    Calls Tryz.prog 66 #[.pointer (some ⟨w.heap.size + 1, 0, none⟩)] w3 (FPostB w.heap.size (w.heap.size + 1) w.heap.size s 0 fp0 (Sp.skip s.data.toList) w3 (finOf s)) := by
  have hl := hfr.len
  have hs := hfr.sz
  exact fstatements_calls _ _ _ s 0 ((Sp.skip s.data.toList).length + 1) _ (fun l f l1 e => Sp.pStmt_lt (A := Tr) _ 0 l f l1 e) (fstmt_reads _ _ _ s _ 0 (by omega)) _ fp0 w3 (by omega) hfr (lim0 _ (by omega)) _ (by omega)

theorem cut_blk {w wd : World} {s : ByteArray} {fin : Sp.R (List (Bl → Bl))} (h : RCut w s fin wd) : Below w.heap.size w wd ∧ wd.cell? ⟨w.heap.size + 1, 4, none⟩ = some (.pointer (some ⟨w.heap.size, 0, none⟩)) ∧ match left fin with
  | .error er => er.1 ≠ 0 ∧ wd.cell? ⟨w.heap.size + 1, 6, none⟩ = some (.int .i64 (er.1 : Int)) ∧ wd.cell? ⟨w.heap.size + 1, 2, none⟩ = some (.int .i64 ((s.size - er.2 : Nat) : Int))
  | .ok l1 => l1.length ≤ s.size ∧ (∃ i t o, wd.heap[w.heap.size + 1]? = some (.cells (frCells s i ((s.size - l1.length : Nat) : Int) t w.heap.size o 0) 174)) := by
  obtain ⟨k, p', w4, hx, hg, hb4, hwd⟩ := h
  have hge : Below w.heap.size w4 wd := by rw [hwd]; exact (Below.refl _ _).setCell (p := ⟨w.heap.size, 1, none⟩) (Nat.le_refl _) _
  have hk : wd.heap[w.heap.size + 1]? = w4.heap[w.heap.size + 1]? := by rw [hwd]; exact Below.heap_setCell _ _ _ _ (by simp)
  obtain ⟨i, a, t, o', er, hb⟩ := hx.rdr
  refine ⟨hb4.trans hge, cell_of (by rw [hk]; exact hb) 4 rfl, ?_⟩
  revert hx
  cases left fin with
  | error e =>
    intro hx
    obtain ⟨i, l0, o, hb, _⟩ := (show FE _ _ _ s e p' w4 from hx).blk
    exact ⟨(show FE _ _ _ s e p' w4 from hx).nz, cell_of (by rw [hk]; exact hb) 6 rfl, cell_of (by rw [hk]; exact hb) 2 rfl⟩
  | ok l1 =>
    intro hx
    have hfr : FR _ _ _ s l1 _ p' w4 := hx
    exact ⟨hfr.len, _, _, _, by rw [hk]; exact hfr.blk⟩

/-- the program, whole -/
theorem cut_prog {w wd : World} {s : ByteArray} {fs : List (Bl → Bl)} (h : RCut w s (.ok (fs, [])) wd) : ∃ pt : Int, wd.cell? ⟨w.heap.size, 2, none⟩ = some (.int .i64 pt) ∧ wd.frozen? ⟨w.heap.size, 2, none⟩ = false ∧ FProg w.heap.size w.heap.size (Sp.joinB fs) (wd.setCell ⟨w.heap.size, 2, none⟩ (.int .i64 (RowKit.wrap64 (pt + 1)))).drew := by
  obtain ⟨k, p', w4, hx, hg, hb4, hwd⟩ := h
  have hp := hx.prog
  obtain ⟨hm, hbl, hq⟩ := hg
  have b1 : wd.heap[w.heap.size]? = some (.cells (fpCells p' k) 105) := by rw [hwd]; exact fp_first hp.blk k
  refine ⟨p'.ct.1, cell_of b1 2 rfl, frozen_of b1 2, { p' with ct := Sp.ptUp p'.ct }, k, p'.ct, fp_point b1 _, ?_, ?_, ?_, ?_, hbl, rfl, hm.pt (by unfold In64; show (-9223372036854775808 : Int) ≤ 0 ∧ (0 : Int) ≤ 9223372036854775807; omega), by rw [hq]; rfl⟩
  · refine ownsRow9_keep hp.rowN (fun g hgg => ?_)
    have hne := (hp.rows_ne hp.blk prog_ne).1
    have hg1 : g ≠ w.heap.size := fun e => hne (by rw [← e]; exact hgg)
    show (wd.setCell _ _).heap[g]? = _
    rw [Below.heap_setCell _ _ _ _ hg1, hwd]
    exact Below.heap_setCell _ _ _ _ hg1
  · refine ownsRow9_keep hp.rowQ (fun g hgg => ?_)
    have hne := (hp.rows_ne hp.blk prog_ne).2
    have hg1 : g ≠ w.heap.size := fun e => hne (by rw [← e]; exact hgg)
    show (wd.setCell _ _).heap[g]? = _
    rw [Below.heap_setCell _ _ _ _ hg1, hwd]
    exact Below.heap_setCell _ _ _ _ hg1
  · have := hm.nl
    have h0 : fp0.ns.length = 0 := rfl
    have h4 := (show FR _ _ _ s [] _ p' w4 from hx).sz
    have := Sp.skip_le s.data.toList
    have hlen : s.data.toList.length = s.size := by simp
    show p'.ns.length ≤ 2000
    omega
  · have := hm.ql
    have h0 : fp0.qs.length = 0 := rfl
    have h4 := (show FR _ _ _ s [] _ p' w4 from hx).sz
    have := Sp.skip_le s.data.toList
    have hlen : s.data.toList.length = s.size := by simp
    show p'.qs.length ≤ 2000
    omega

theorem fRead_calls (s : ByteArray) (hmax : s.size ≤ 1048576) (w : World) : Calls Tryz.prog 40 #[.string s] w (FReadPost s w) := by
  have hlen : s.data.toList.length = s.size := by simp
  by_cases hs : 400 < s.size
  · have HT : Hid (Sp.tree s.data.toList = .error (1, 0)) := tree_long (by omega)
    go_enter Tryz.func40, Tryz.ntmps40
    go_wp2_with fail
    try simp only [Exit.inBlock, Exit.then]
    refine bodyPost_ret (v := .tuple #[.pointer none, .int .i64 1, .int .i64 0]) (by simp [results, Tryz.results40, go_sem]) rfl ?_
    unfold FReadPost
    rw [HT.out]
    exact ⟨Below.refl _ _, rfl⟩
  · have hs4 : s.size ≤ 400 := by omega
    have HS : Hid (¬ 400 < s.data.toList.length) := by unfold Hid; omega
    have HF := fRead_first w s hs4
    go_enter Tryz.func40, Tryz.ntmps40
    go_wp2_with fail
    refine HF.mono ?_
    rintro e w3 ⟨rfl, hfr, hbl⟩
    have c4 := cell_of hfr.blk 4 (v := .pointer (some ⟨w.heap.size, 0, none⟩)) rfl
    have f1 := frozen_of hfr.prog.blk 1
    have HFR : Hid (_ ∧ _) := And.intro hfr hbl
    have HFD : Hid (FR w.heap.size (w.heap.size + 1) w.heap.size s (Sp.skip s.data.toList) 0 fp0 w3.drew) := FX.drew (r := .ok (Sp.skip s.data.toList)) hfr
    clear hfr hbl HF
    go_wp2_with fail
    go_cut [] from 6 (fun wd => RCut w s (finOf s) wd)
    case first =>
      go_region_with (go_at_call 66; refine (rcut_stmts HFD.out).mono ?_; rintro e w4 ⟨k, p', rfl, h4, k4, g4⟩; obtain ⟨i', a', t', o', er', hb'⟩ := h4.rdr; have c4' := cell_of hb' 4 (v := .pointer (some ⟨w.heap.size, 0, none⟩)) rfl; have d1 := cell_of h4.prog.blk 1 (v := .int .i64 0) rfl; have f1' := frozen_of h4.prog.blk 1; have H4 : Hid (_ ∧ _ ∧ _) := And.intro h4 (And.intro k4 g4); clear h4 k4 g4 hb')
      all_goals
        go_wp2_with fail
        go_meet
        exact ⟨k, p', w4, H4.out.1, H4.out.2.2, (HFR.out.2.drew).trans (H4.out.2.1.below HFD.out.prog (by omega) (by have := HFR.out.2.size; exact this)), rfl⟩
    case rest =>
      clear c4 f1 HFR HFD
      obtain ⟨HB, c4, hrest⟩ := cut_blk hcut
      have HCUT : Hid (RCut w s (finOf s) wc) := hcut
      have HBL : Hid (Below w.heap.size w wc) := HB
      clear hcut HB
      generalize wc = wo at *
      rcases hfin : finOf s with er | ⟨fs, l1⟩
      · rw [hfin] at hrest
        simp only [left] at hrest
        obtain ⟨hz, c6, c2⟩ := hrest
        obtain ⟨q, hq⟩ : ∃ q : Int, Hid (q = (er.1 : Int)) := ⟨_, hid_rfl _⟩
        obtain ⟨pl, hpl⟩ : ∃ pl : Int, Hid (pl = ((s.size - er.2 : Nat) : Int)) := ⟨_, hid_rfl _⟩
        have hz1 : ¬ q = 0 := by rw [hq.out]; omega
        have hz2 : (q == 0) = false := by simpa using hz1
        rw [← hq.out] at c6
        rw [← hpl.out] at c2
        have HT : Hid (Sp.tree s.data.toList = .error (er.1, s.data.toList.length - er.2)) := tree_bad HS.out hfin
        clear hz hfin HCUT
        go_wp2_with fail
        go_region_with (fail)
        all_goals
          go_wp2_with fail
          try simp only [Exit.inBlock, Exit.then]
          refine bodyPost_ret (v := .tuple #[.pointer none, .int .i64 q, .int .i64 pl]) (by simp [results, Tryz.results40, go_sem]) rfl ?_
          unfold FReadPost
          rw [HT.out]
          exact ⟨HBL.out.drew, by rw [hq.out, hpl.out]; simp⟩
      · rw [hfin] at hrest
        simp only [left] at hrest
        obtain ⟨hl, i, t, o, hb⟩ := hrest
        have c6 := cell_of hb 6 (v := .int .i64 0) rfl
        by_cases hl1 : l1 = []
        · subst hl1
          have c2 := cell_of hb 2 (v := .int .i64 ((s.size : Nat) : Int)) rfl
          have HT : Hid (Sp.tree s.data.toList = .ok (Sp.joinB fs)) := tree_ok HS.out hfin
          have hcc := HCUT.out
          rw [hfin] at hcc
          obtain ⟨pt, d2, f2, hprog⟩ := cut_prog hcc
          have HP : Hid (FProg _ _ _ _) := hprog
          clear hfin HCUT hcc hprog
          go_wp2_with fail
          go_cut [] from 6 (fun wc => wc = (wo.setCell ⟨w.heap.size, 2, none⟩ (.int .i64 (RowKit.wrap64 (pt + 1)))).drew)
          case first =>
            go_region_with (fail)
            all_goals
              go_wp2_with fail
              go_meet
              rw [IntWalk.i64_left]
          case rest =>
            have hb' : wc.heap[w.heap.size + 1]? = some (.cells (frCells s i ((s.size - ([] : Sp.Bs).length : Nat) : Int) t w.heap.size o 0) 174) := by
              rw [hcut]
              exact (Below.heap_setCell _ _ _ _ (by simp)).trans hb
            have c4' := cell_of hb' 4 (v := .pointer (some ⟨w.heap.size, 0, none⟩)) rfl
            have HB2 : Hid (Below w.heap.size w wc) := by
              unfold Hid
              rw [hcut]
              exact (HBL.out.setCell (p := ⟨w.heap.size, 2, none⟩) (Nat.le_refl _) _).drew
            have HP2 : Hid (FProg w.heap.size w.heap.size (Sp.joinB fs) wc) := by unfold Hid; rw [hcut]; exact HP.out
            clear hcut hb' c4 d2 f2 c6 c2 hb HP HBL
            go_wp2_with fail
            try simp only [Exit.inBlock, Exit.then]
            refine bodyPost_ret (v := .tuple #[.pointer (some ⟨w.heap.size, 0, none⟩), .int .i64 0, .int .i64 0]) (by simp [results, Tryz.results40, go_sem]) rfl ?_
            unfold FReadPost
            rw [HT.out]
            exact ⟨HB2.out, _, rfl, Nat.le_refl _, HP2.out⟩
        · obtain ⟨pl, hpl⟩ : ∃ pl : Int, Hid (pl = ((s.size - l1.length : Nat) : Int)) := ⟨_, hid_rfl _⟩
          have c2 := cell_of hb 2 (v := .int .i64 pl) (by rw [hpl.out]; rfl)
          have hlt : pl < (s.size : Int) := by
            have : 0 < l1.length := List.length_pos_iff.2 hl1
            rw [hpl.out]; omega
          have HT : Hid (Sp.tree s.data.toList = .error (2, s.data.toList.length - l1.length)) := tree_left HS.out hl1 hfin
          have HW := wrong_blk hb
          have hltb : w.heap.size + 1 < wo.heap.size := heap_lt hb
          clear hfin HCUT hl1
          go_wp2_with fail
          refine HW.mono ?_
          rintro e w5 ⟨rfl, rfl⟩
          clear HW
          have HB2 : Hid (Below w.heap.size w (wo.setCell ⟨w.heap.size + 1, 6, none⟩ (.int .i64 2))) := HBL.out.setCell (p := ⟨w.heap.size + 1, 6, none⟩) (by simp) _
          go_wp2_with fail
          go_region_with (fail)
          all_goals
            go_wp2_with fail
            try simp only [Exit.inBlock, Exit.then]
            refine bodyPost_ret (v := .tuple #[.pointer none, .int .i64 2, .int .i64 pl]) (by simp [results, Tryz.results40, go_sem]) rfl ?_
            unfold FReadPost
            rw [HT.out]
            exact ⟨HB2.out.drew, by rw [hpl.out]; simp⟩

end Go.Proofs.YtiopfihjmkfdmaaGreatDoor
