import Derived.Test.YtiopfihjmkfdmaaGreatDoorS14
import Derived.Defers
import Derived.Laws.Externs
import Derived.Lib.AppendIntMem
import Derived.Lib.AppendStr
import Derived.Lib.Builder
import Derived.Lib.SmallJoins
import Derived.Lib.UnsafeStr
import Derived.Recover
namespace Go.Proofs.YtiopfihjmkfdmaaGreatDoor
namespace Sp
theorem digitsF_le : ∀ (f n : Nat), (digitsF f n).length ≤ f
 | 0, _ => by simp [digitsF]
 | f + 1, n => by
  unfold digitsF
  split
  ·simp
  ·have := digitsF_le f (n / 10)
   simp; omega
theorem opSign_one (k : Nat) : (opSign k).length = 1 := by unfold opSign; split <;> rfl
theorem relSign_two (k : Nat) : (relSign k).length ≤ 2 := by unfold relSign; split <;> decide
theorem part_len (x : Nat × Bs) (l : Nat) : (part x l).length ≤ x.2.length + 2 := by
 unfold part
 split
 ·simp only [List.length_append, List.length_cons, List.length_nil]; omega
 ·omega
def slen (x : Pr.S) : Nat := List.length (α := UInt8) (Prod.snd (α := Nat) (β := Bs) x)
def tlen (f : Pr.T) (d : Nat) : Nat := List.length (α := UInt8) ((show Nat → Bs from f) d)
def llen (xs : List Pr.T) (d : Nat) : Nat := List.length (α := UInt8) (lines d xs)
theorem slen_bin (k : Nat) (x z : Pr.S) : slen (Pr.bin k x z) ≤ slen x + slen z + 7 := by
 show (part x (opLevel k) ++ [32] ++ opSign k ++ [32] ++ part z (opLevel k + 1)).length ≤ _
 have a1 := part_len x (opLevel k)
 have a2 := part_len z (opLevel k + 1)
 have a3 := opSign_one k
 simp only [List.length_append, List.length_cons, List.length_nil]
 unfold slen
 omega
theorem slen_num (v : Nat) : slen (Pr.num v) ≤ 20 := digitsF_le 20 v
theorem slen_name (k : Nat) : slen (Pr.name k) = 1 := rfl
theorem slen_neg (z : Pr.S) : slen (Pr.neg z) ≤ slen z + 3 := by
 show ([45] ++ part z 2).length ≤ _
 have h3 := part_len z 2
 simp only [List.length_append, List.length_cons, List.length_nil]
 unfold slen
 omega
theorem opOf_next_lt {l : Bs} {k : Nat} (h : opOf (tok l) = some k) : (next l).length < l.length := by
 apply next_lt
 rw [← tok_length]
 apply List.length_pos_iff.2
 intro e
 rw [e] at h
 simp [opOf] at h
def Short (u : Bs → R Pr.S) : Prop := ∀ l x l1, u l = .ok (x, l1) → l1.length < l.length ∧ slen x + 4 ≤ 32 * (l.length - l1.length)
theorem pChain_short {lv : Nat} {u : Bs → R Pr.S} (hu : Short u) : ∀ (m : Nat) (x : Pr.S) (l : Bs) (y : Pr.S) (l1 : Bs), pChain Pr lv u m x l = .ok (y, l1) → l1.length ≤ l.length ∧ slen y ≤ slen x + 32 * (l.length - l1.length)
 | 0, x, l, y, l1, h => by
  unfold pChain at h
  cases h; exact ⟨Nat.le_refl _, by omega⟩
 | m + 1, x, l, y, l1, h => by
  unfold pChain at h
  split at h
  ·rename_i k hk
   split at h
   ·split at h
    ·rename_i z l2 hr
     obtain ⟨h1, h2⟩ := hu _ z _ hr
     have h3 := opOf_next_lt hk
     obtain ⟨h4, h5⟩ := pChain_short hu m _ _ y _ h
     have h6 := slen_bin k x z
     exact ⟨by omega, by omega⟩
    ·cases h
   ·cases h; exact ⟨Nat.le_refl _, by omega⟩
  ·cases h; exact ⟨Nat.le_refl _, by omega⟩
theorem pWith_short {lv : Nat} {u : Bs → R Pr.S} (hu : Short u) : Short (pWith Pr lv u) := by
 intro l y l1 h
 unfold pWith at h
 split at h
 ·rename_i x l2 hr
  obtain ⟨h1, h2⟩ := hu _ x _ hr
  obtain ⟨h3, h4⟩ := pChain_short hu _ x _ y _ h
  exact ⟨by omega, by omega⟩
 ·cases h
theorem pUnary_short : ∀ (n o : Nat), Short (pUnary Pr n o)
 | 0, o => fun l x l1 h => by unfold pUnary bad at h; cases h
 | n + 1, o => fun l x l1 h => by
  have hlt := pUnary_lt (A := Pr) (n + 1) o l x l1 h
  refine ⟨hlt, ?_⟩
  unfold pUnary at h
  split at h
  ·split at h
   ·rename_i v hv
    cases h
    have := slen_num v
    omega
   ·cases h
  ·split at h
   ·split at h
    ·rename_i k l2 hr
     cases h
     have := slen_name k
     omega
    ·cases h
   ·split at h
    ·split at h
     ·rename_i l2 hr
      obtain ⟨ht, _, rfl⟩ := enter_ok_iff hr
      have h0 := next_lt_of_tok ht (by simp)
      split at h
      ·rename_i z l3 hr2
       obtain ⟨h1, h2⟩ := pUnary_short n _ _ z _ hr2
       cases h
       have := slen_neg z
       omega
      ·cases h
     ·cases h
    ·split at h
     ·rename_i l2 hr
      obtain ⟨ht, _, rfl⟩ := enter_ok_iff hr
      have h0 := next_lt_of_tok ht (by simp)
      split at h
      ·rename_i z l3 hr2
       obtain ⟨h1, h2⟩ := pWith_short (pWith_short (pUnary_short n (o + 1))) _ z _ hr2
       split at h
       ·rename_i l4 hr3
        have h3 := take_le hr3
        cases h
        omega
       ·cases h
      ·cases h
     ·cases h
theorem pS_short (o : Nat) (l : Bs) (x : Pr.S) (l1 : Bs) (h : pS Pr o l = .ok (x, l1)) : l1.length < l.length ∧ slen x + 4 ≤ 32 * (l.length - l1.length) :=
 pWith_short (pWith_short (pUnary_short (l.length + 1) o)) l x l1 h
def clen (k : Nat) (x y : Pr.S) : Nat := List.length (α := UInt8) (condText k x y)
theorem clen_le (k : Nat) (x y : Pr.S) : clen k x y ≤ slen x + slen y + 4 := by
 have h4 := relSign_two k
 show ((Prod.snd (α := Nat) (β := Bs) x) ++ [32] ++ relSign k ++ [32] ++ (Prod.snd (α := Nat) (β := Bs) y)).length ≤ _
 simp only [List.length_append, List.length_cons, List.length_nil]
 unfold slen
 omega
theorem pCond_short {o : Nat} {l : Bs} {k : Nat} {x y : Pr.S} {l1 : Bs} (h : pCond Pr o l = .ok ((k, x, y), l1)) : l1.length < l.length ∧ clen k x y ≤ 32 * (l.length - l1.length) := by
 refine ⟨pCond_lt h, ?_⟩
 unfold pCond at h
 split at h
 ·rename_i x' l2 hr
  have h1 := pS_short _ _ x' _ hr
  split at h
  ·split at h
   ·rename_i y' l3 hr2
    have h2 := pS_short _ _ y' _ hr2
    have h3 := next_le l2
    cases h
    have h4 := clen_le k x y
    omega
   ·cases h
  ·cases h
 ·cases h
theorem padLen (d : Nat) : (pad d).length = 2 * d := by simp [pad]
theorem lines_append (d : Nat) (xs ys : List (Nat → Bs)) : lines d (xs ++ ys) = lines d xs ++ lines d ys := by simp [lines]
theorem lines_one (d : Nat) (f : Nat → Bs) : lines d [f] = f d := by simp [lines]
theorem llen_append (d : Nat) (xs ys : List Pr.T) : llen (xs ++ ys) d = llen xs d + llen ys d :=
 (congrArg List.length (lines_append d xs ys)).trans List.length_append
theorem llen_one (d : Nat) (f : Pr.T) : llen [f] d = tlen f d := congrArg List.length (lines_one d f)
theorem llen_nil (d : Nat) : llen [] d = 0 := rfl
def ShortT (K : Nat) (st : Bs → R Pr.T) : Prop := ∀ l f l1, st l = .ok (f, l1) → l1.length < l.length ∧ ∀ d, tlen f d ≤ (K + 8 * d) * (l.length - l1.length)
theorem pMany_short {K : Nat} {st : Bs → R Pr.T} (hs : ShortT K st) : ∀ (m : Nat) (xs : List Pr.T) (l : Bs) (ys : List Pr.T) (l1 : Bs), pMany Pr st m xs l = .ok (ys, l1) → l1.length ≤ l.length ∧ ∀ d, llen ys d ≤ llen xs d + (K + 8 * d) * (l.length - l1.length)
 | 0, xs, l, ys, l1, h => by unfold pMany at h; cases h; exact ⟨Nat.le_refl _, fun d => by omega⟩
 | m + 1, xs, l, ys, l1, h => by
  unfold pMany at h
  split at h
  ·split at h
   ·rename_i f l2 hr
    obtain ⟨h1, h2⟩ := hs _ f _ hr
    obtain ⟨h3, h4⟩ := pMany_short hs m _ _ _ _ h
    refine ⟨by omega, fun d => ?_⟩
    have h5 := h2 d
    have h6 := h4 d
    rw [llen_append, llen_one] at h6
    have h8 : l.length - l1.length = (l.length - l2.length) + (l2.length - l1.length) := by omega
    rw [h8, Nat.mul_add]
    omega
   ·cases h
  ·cases h; exact ⟨Nat.le_refl _, fun d => by omega⟩
theorem pBlock_short {K : Nat} {st : Bs → R Pr.T} (hs : ShortT K st) {o : Nat} {l : Bs} {xs : List Pr.T} {l1 : Bs} (h : pBlock Pr st o l = .ok (xs, l1)) : l1.length < l.length ∧ ∀ d, llen xs d ≤ (K + 8 * d) * (l.length - l1.length - 1) := by
 refine ⟨pBlock_lt (fun l x l1 h => (hs l x l1 h).1) h, ?_⟩
 unfold pBlock at h
 split at h
 ·rename_i l2 hr
  obtain ⟨ht, _, rfl⟩ := enter_ok_iff hr
  have h0 := next_lt_of_tok ht (by simp)
  split at h
  ·rename_i ys l3 hr2
   obtain ⟨h1, h2⟩ := pMany_short hs _ _ _ _ _ hr2
   split at h
   ·rename_i l4 hr3
    have h3 := take_le hr3
    cases h
    intro d
    have h4 := h2 d
    rw [llen_nil] at h4
    have h6 : (next l).length - l3.length ≤ l.length - l1.length - 1 := by omega
    have h7 := Nat.mul_le_mul_left (K + 8 * d) h6
    omega
   ·cases h
  ·cases h
 ·cases h
theorem tlen_assign (k : Nat) (x : Pr.S) (d : Nat) : tlen (Pr.assign k x) d = 2 * d + slen x + 6 := by
 show (pad d ++ letter k ++ [32, 61, 32] ++ (Prod.snd (α := Nat) (β := Bs) x) ++ [59, 10]).length = _
 simp only [List.length_append, List.length_cons, List.length_nil, padLen]
 have : (letter k).length = 1 := rfl
 unfold slen
 omega
theorem tlen_read (k : Nat) (d : Nat) : tlen (Pr.read k) d = 2 * d + 8 := by
 show (pad d ++ [114, 101, 97, 100, 32] ++ letter k ++ [59, 10]).length = _
 simp only [List.length_append, List.length_cons, List.length_nil, padLen]
 have : (letter k).length = 1 := rfl
 omega
theorem tlen_assert (k : Nat) (x y : Pr.S) (d : Nat) : tlen (Pr.assert k x y) d = 2 * d + clen k x y + 9 := by
 show (pad d ++ [97, 115, 115, 101, 114, 116, 32] ++ condText k x y ++ [59, 10]).length = _
 simp only [List.length_append, List.length_cons, List.length_nil, padLen]
 unfold clen
 omega
theorem tlen_ite (k : Nat) (x y : Pr.S) (xs : List Pr.T) (d : Nat) : tlen (Pr.ite k x y xs none) d = 4 * d + clen k x y + 8 + llen xs (d + 1) := by
 show (pad d ++ [105, 102, 32] ++ condText k x y ++ [32, 123, 10] ++ lines (d + 1) xs ++ [] ++ pad d ++ [125, 10]).length = _
 simp only [List.length_append, List.length_cons, List.length_nil, padLen]
 unfold clen llen
 omega
theorem tlen_iteElse (k : Nat) (x y : Pr.S) (xs ys : List Pr.T) (d : Nat) : tlen (Pr.ite k x y xs (some ys)) d = 6 * d + clen k x y + 17 + llen xs (d + 1) + llen ys (d + 1) := by
 show (pad d ++ [105, 102, 32] ++ condText k x y ++ [32, 123, 10] ++ lines (d + 1) xs ++ (pad d ++ [125, 32, 101, 108, 115, 101, 32, 123, 10] ++ lines (d + 1) ys) ++ pad d ++ [125, 10]).length = _
 simp only [List.length_append, List.length_cons, List.length_nil, padLen]
 unfold clen llen
 omega
theorem tlen_loop (k : Nat) (x y : Pr.S) (xs : List Pr.T) (d : Nat) : tlen (Pr.loop k x y xs) d = 4 * d + clen k x y + 11 + llen xs (d + 1) := by
 show (pad d ++ [119, 104, 105, 108, 101, 32] ++ condText k x y ++ [32, 123, 10] ++ lines (d + 1) xs ++ pad d ++ [125, 10]).length = _
 simp only [List.length_append, List.length_cons, List.length_nil, padLen]
 unfold clen llen
 omega
theorem mul_ge (F c : Nat) (h : 1 ≤ c) : F ≤ F * c := Nat.le_mul_of_pos_right F h
theorem mul_two (F a b c : Nat) (h : a + b ≤ c) : F * a + F * b ≤ F * c := by
 rw [← Nat.mul_add]; exact Nat.mul_le_mul_left F h
theorem pStmt_short : ∀ (n o : Nat), ShortT (80 + 8 * n) (pStmt Pr n o)
 | 0, o => fun l f l1 h => by unfold pStmt bad at h; cases h
 | n + 1, o => fun l f l1 h => by
  have hlt := pStmt_lt (A := Pr) (n + 1) o l f l1 h
  refine ⟨hlt, fun d => ?_⟩
  have hb : ∀ l xs l1, pBlock Pr (pStmt Pr n (o + 1)) o l = .ok (xs, l1) → l1.length < l.length ∧ ∀ d, llen xs d ≤ (80 + 8 * n + 8 * d) * (l.length - l1.length - 1) := fun l xs l1 h => pBlock_short (pStmt_short n (o + 1)) h
  have hn := next_le l
  have hF : 80 + 8 * (n + 1) + 8 * d = 80 + 8 * n + 8 * (d + 1) := by omega
  rw [hF]
  generalize hG : 80 + 8 * n + 8 * (d + 1) = F
  have hF2 : 88 + 8 * d ≤ F := by omega
  have hcond : ∀ c : Nat, 32 * c ≤ F * c := fun c => Nat.mul_le_mul_right c (by omega)
  unfold pStmt at h
  split at h
  ·unfold pRead at h
   split at h
   ·split at h
    ·cases h
     have hg := mul_ge F (l.length - l1.length) (by omega)
     rw [tlen_read]; omega
    ·cases h
   ·cases h
  ·split at h
   ·rename_i ht
    have hnl := next_lt_of_tok ht (by decide)
    unfold pAssert at h
    split at h
    ·rename_i k x y l2 hr
     have h1 := pCond_short hr
     split at h
     ·rename_i l3 hr2
      have h2 := take_le hr2
      cases h
      rw [tlen_assert]
      have a1 := hcond ((next l).length - l2.length)
      have a2 := mul_two F 1 ((next l).length - l2.length) (l.length - l1.length) (by omega)
      omega
     ·cases h
    ·cases h
   ·split at h
    ·rename_i ht
     have hnl := next_lt_of_tok ht (by decide)
     unfold pIf at h
     split at h
     ·rename_i k x y l2 hr
      have h1 := pCond_short hr
      have a1 := hcond ((next l).length - l2.length)
      split at h
      ·rename_i xs l3 hr2
       obtain ⟨h2, h3⟩ := hb _ _ _ hr2
       have h4 := h3 (d + 1)
       rw [hG] at h4
       split at h
       ·split at h
        ·rename_i ys l4 hr3
         obtain ⟨h5, h6⟩ := hb _ _ _ hr3
         have h7 := h6 (d + 1)
         rw [hG] at h7
         have h8 := next_le l3
         cases h
         rw [tlen_iteElse]
         have b1 := mul_two F 1 ((next l).length - l2.length) ((next l).length - l2.length + 1) (by omega)
         have b2 := mul_two F ((next l).length - l2.length + 1) (l2.length - l3.length - 1) (l.length - l3.length) (by omega)
         have b3 := mul_two F (l.length - l3.length) ((next l3).length - l1.length - 1) (l.length - l1.length) (by omega)
         omega
        ·cases h
       ·cases h
        rw [tlen_ite]
        have b1 := mul_two F 1 ((next l).length - l2.length) ((next l).length - l2.length + 1) (by omega)
        have b2 := mul_two F ((next l).length - l2.length + 1) (l2.length - l1.length - 1) (l.length - l1.length) (by omega)
        omega
      ·cases h
     ·cases h
    ·split at h
     ·rename_i ht
      have hnl := next_lt_of_tok ht (by decide)
      unfold pWhile at h
      split at h
      ·rename_i k x y l2 hr
       have h1 := pCond_short hr
       have a1 := hcond ((next l).length - l2.length)
       split at h
       ·rename_i xs l3 hr2
        obtain ⟨h2, h3⟩ := hb _ _ _ hr2
        have h4 := h3 (d + 1)
        rw [hG] at h4
        cases h
        rw [tlen_loop]
        have b1 := mul_two F 1 ((next l).length - l2.length) ((next l).length - l2.length + 1) (by omega)
        have b2 := mul_two F ((next l).length - l2.length + 1) (l2.length - l1.length - 1) (l.length - l1.length) (by omega)
        omega
       ·cases h
      ·cases h
     ·unfold pAssign at h
      split at h
      ·rename_i k l2 hr
       have h0 := pName_lt hr
       split at h
       ·rename_i l3 hr2
        have h1 := take_le hr2
        split at h
        ·rename_i x l4 hr3
         have h2 := pS_short _ _ x _ hr3
         split at h
         ·rename_i l5 hr4
          have h3 := take_le hr4
          cases h
          rw [tlen_assign]
          have a1 := hcond (l3.length - l4.length)
          have a2 := mul_two F 1 (l3.length - l4.length) (l.length - l1.length) (by omega)
          omega
         ·cases h
        ·cases h
       ·cases h
      ·cases h
theorem parse_short {src : Bs} {xs : List Pr.T} (h : parse Pr src = .ok xs) : llen xs 0 ≤ 2000000 := by
 unfold parse at h
 split at h
 ·cases h
 ·rename_i hl
  split at h
  ·rename_i ys hr
   cases h
   unfold pProg at hr
   split at hr
   ·rename_i zs l1 hr2
    split at hr
    ·cases hr
     have h1 := (pMany_short (pStmt_short ((skip src).length + 1) 0) _ _ _ _ _ hr2).2 0
     rw [llen_nil] at h1
     have h2 := skip_le src
     have h3 : (80 + 8 * ((skip src).length + 1) + 8 * 0) * ((skip src).length - l1.length) ≤ 3288 * 400 := Nat.mul_le_mul (by omega) (by omega)
     omega
    ·cases hr
   ·cases hr
  ·cases h
end Sp
end Go.Proofs.YtiopfihjmkfdmaaGreatDoor
namespace Go.Proofs.YtiopfihjmkfdmaaGreatDoor
open Go.RowKit
set_option maxRecDepth 100000
set_option maxHeartbeats 1000000
def PrAt (B b d : Nat) (t : Sp.Bs) (w : World) : Prop :=
 ∃ p v, w.heap[b]? = some (.cells #[p, v, .int .i64 (d : Nat)] 155) ∧ (p = .pointer none ∨ p = .pointer (some ⟨b, 0, none⟩)) ∧ w.ownsRow B 5 1 v t.length (Lib.byteCells t) ∧ v.ownBlock ≠ some b ∧ B ≤ b
theorem PrAt.lt {B b d : Nat} {t : Sp.Bs} {w : World} (h : PrAt B b d t w) : B ≤ b ∧ b < w.heap.size := by
 obtain ⟨p, v, hb, _, _, _, hB⟩ := h
 exact ⟨hB, heap_lt hb⟩
theorem infoBuilder : (Tryz.prog.info? 153).map (·.size) = some 2 := by kernel_rfl
theorem infoByte : (Tryz.prog.info? 5).map (fun i => (i.zero, i.size, i.bytes)) = some (some (.int .u8 0), 1, 1) := by kernel_rfl
theorem liesBuilder : liesAt Tryz.prog Tryz.prog.depth 155 (3 / Tryz.prog.cellsOf 155) 0 153 1 = true := by kernel_rfl
theorem cellsByte : Tryz.prog.cellsOf 5 = 1 := by kernel_rfl
theorem copyCheck_used (b : Nat) (w : World) (h0 : w.cell? ⟨b, 0, none⟩ = some (.pointer (some ⟨b, 0, none⟩))) :
  Calls Tryz.prog 208 #[.pointer (some ⟨b, 0, none⟩)] w fun e w' => e = .returned (.tuple #[]) ∧ w' = w := by
 obtain ⟨j, hj, _⟩ := Option.map_eq_some_iff.1 infoBuilder
 go_enter Tryz.func208, Tryz.ntmps208
 go_wp2
 rw [Lib.run_neq_ptr_same w _ Tryz.underlying150 hj]
 go_wp2
 go_end0
 exact ⟨rfl, rfl⟩
theorem copyCheck_fresh (b : Nat) (v d : Value) (w : World) (hbk : w.heap[b]? = some (.cells #[.pointer none, v, d] 155)) :
  Calls Tryz.prog 208 #[.pointer (some ⟨b, 0, none⟩)] w fun e w' => e = .returned (.tuple #[]) ∧ w' = w.setCell ⟨b, 0, none⟩ (.pointer (some ⟨b, 0, none⟩)) := by
 obtain ⟨j, hj, hjs⟩ := Option.map_eq_some_iff.1 infoBuilder
 have h0 := cell_of hbk 0 (v := .pointer none) rfl
 have hfz := frozen_of hbk 0
 have hsh : w.shape? b = some (155, 3) := by simp [World.shape?, hbk]
 clear hbk
 go_enter Tryz.func208, Tryz.ntmps208
 go_wp2
 rw [Lib.run_to_unsafe w ⟨b, 0, none⟩ Tryz.underlying150 Tryz.underlying158 hj (by rw [hjs]; decide) hsh (Nat.zero_lt_succ 2)]
 simp only [Result.andThen]
 rw [Oper.upon_value]
 go_wp2
 rw [run_callFunc_extern Tryz.func236 (by kernel_rfl) (by kernel_rfl) (by kernel_rfl) (e := Extern.AbiNoEscape.same) (by kernel_rfl)]
 rw [Lib.run_noEscape]
 simp only [Result.andThen]
 rw [Oper.upon_value]
 go_wp2
 rw [Lib.run_from_unsafe w ⟨b, 0, none⟩ Tryz.underlying158 Tryz.underlying150 hj hsh liesBuilder]
 simp only [Result.andThen]
 rw [Oper.upon_value]
 go_wp2
 go_end0
 exact ⟨rfl, rfl⟩
structure PKeep (B b : Nat) (w w' : World) : Prop where
 below : Below B w w'
 others : ∀ k, k < w.heap.size → k ≠ b → (∀ c fz, w.heap[k]? ≠ some (.cells c 5 fz)) → w'.heap[k]? = w.heap[k]?
theorem PKeep.refl (B b : Nat) (w : World) : PKeep B b w w := ⟨Below.refl _ _, fun _ _ _ _ => rfl⟩
theorem PKeep.trans {B b : Nat} {w1 w2 w3 : World} (h : PKeep B b w1 w2) (k : PKeep B b w2 w3) : PKeep B b w1 w3 :=
 ⟨h.below.trans k.below, fun i hi hb hn => by
  have e := h.others i hi hb hn
  rw [k.others i (Nat.lt_of_lt_of_le hi h.below.size) hb (by rw [e]; exact hn), e]⟩
theorem PKeep.of_below {B b : Nat} {w w' : World} (h : Below w.heap.size w w') (hB : B ≤ w.heap.size) : PKeep B b w w' :=
 ⟨h.mono hB, fun k hk _ _ => h.block k hk⟩
theorem PKeep.alloc {B b : Nat} {w w' : World} (h : PKeep B b w w') (hB : B ≤ w.heap.size) (o : Obj) : PKeep B b w (w'.alloc o) := by
 have hs := h.below.size
 exact ⟨h.below.alloc (by omega) o, fun k hk hb hn => by rw [Below.heap_alloc _ _ _ (by omega)]; exact h.others k hk hb hn⟩
theorem PKeep.cell {B b : Nat} {w w' : World} (h : PKeep B b w w') {k : Nat} {c : Array Value} {e : TypeId} {fz : Nat × Nat} (hk : w.heap[k]? = some (.cells c e fz)) (hb : k ≠ b) (he : e ≠ 5) : w'.heap[k]? = some (.cells c e fz) := by
 rw [h.others k (heap_lt hk) hb (fun c' fz' e' => by rw [hk] at e'; cases e'; exact he rfl)]; exact hk
def PrUsed (B b d : Nat) (t : Sp.Bs) (w : World) : Prop :=
 ∃ v, w.heap[b]? = some (.cells #[.pointer (some ⟨b, 0, none⟩), v, .int .i64 (d : Nat)] 155) ∧ w.ownsRow B 5 1 v t.length (Lib.byteCells t) ∧ v.ownBlock ≠ some b ∧ B ≤ b
theorem PrUsed.at {B b d : Nat} {t : Sp.Bs} {w : World} (h : PrUsed B b d t w) : PrAt B b d t w := by
 obtain ⟨v, h1, h2, h3, h4⟩ := h
 exact ⟨_, v, h1, .inr rfl, h2, h3, h4⟩
theorem ownsRow_setCell_other {w : World} {base n : Nat} {e : TypeId} {v : Value} {xs : List Value} (h : w.ownsRow base e 1 v n xs) {a : Addr} (ha : v.ownBlock ≠ some a.block) (u : Value) : (w.setCell a u).ownsRow base e 1 v n xs := by
 obtain ⟨h1, h2⟩ := h
 refine ⟨h1, ?_⟩
 rcases h2 with h2 | ⟨g, cap, cur, rfl, hg, hh, r⟩
 ·exact .inl h2
 ·refine .inr ⟨g, cap, cur, rfl, hg, ?_, r⟩
  rw [Below.heap_setCell _ _ _ _ (fun e => ha (by simp [Value.ownBlock, e]))]
  exact hh
theorem copyCheck_calls (B b d : Nat) (t : Sp.Bs) (w : World) (h : PrAt B b d t w) :
  Calls Tryz.prog 208 #[.pointer (some ⟨b, 0, none⟩)] w fun e w' => e = .returned (.tuple #[]) ∧ PrUsed B b d t w' ∧ PKeep B b w w' := by
 obtain ⟨p, v, hb, hp, ho, hne, hB⟩ := h
 rcases hp with rfl | rfl
 ·refine (copyCheck_fresh b v _ w hb).mono ?_
  rintro e w' ⟨rfl, rfl⟩
  refine ⟨rfl, ⟨v, ?_, ownsRow_setCell_other ho (a := ⟨b, 0, none⟩) hne _, hne, hB⟩, (Below.refl _ _).setCell (p := ⟨b, 0, none⟩) hB _, fun k _ hk _ => Below.heap_setCell _ _ _ _ hk⟩
  rw [heap_setCell_at hb 0 (.pointer (some ⟨b, 0, none⟩))]
  rfl
 ·refine (copyCheck_used b w (cell_of hb 0 rfl)).mono ?_
  rintro e w' ⟨rfl, rfl⟩
  exact ⟨rfl, ⟨v, hb, ho, hne, hB⟩, PKeep.refl _ _ _⟩
theorem byteCells_append (t : Sp.Bs) (s : ByteArray) : Lib.byteCells t ++ Lib.strCells s = Lib.byteCells (t ++ s.data.toList) := by
 simp [Lib.byteCells, Lib.strCells]
theorem writeString_calls (B b d : Nat) (t : Sp.Bs) (s : ByteArray) (w : World) (h : PrAt B b d t w) (hlen : t.length + s.size ≤ 140737488355328) (hBw : B ≤ w.heap.size) :
  Calls Tryz.prog 169 #[.pointer (some ⟨b, 0, none⟩), .string s] w fun e w' => e = .returned (.tuple #[.int .i64 s.size, .nilIface]) ∧ PrAt B b d (t ++ s.data.toList) w' ∧ PKeep B b w w' := by
 obtain ⟨i0, hi, hz0, hz1, hz2⟩ := info_parts infoByte
 go_enter Tryz.func169, Tryz.ntmps169
 go_wp2_with fail
 refine (copyCheck_calls B b d t _ h).mono ?_
 rintro e w1 ⟨rfl, h1, hb1⟩
 obtain ⟨v, hbk, hown, hne, hB⟩ := h1
 have c1 := cell_of hbk 1 (v := v) rfl
 have hbs := hb1.below.size
 go_wp2_with (at_builtin; refine Lib.wpList_append_own_string _ rfl _ _ 151 9 rfl B 5 i0 Tryz.underlying151 Tryz.underlying9 hi hz0 hz1 hz2 _ _ _ rfl hown s rfl ?c3 ?c4 ?c5 ?_)
 case c3 => unfold maxLen; omega
 case c4 => omega
 case c5 => omega
 intro v' w2 hown' hgrow _
 have hlt : b < w1.heap.size := heap_lt hbk
 have hb2 : w2.heap[b]? = some (.cells #[.pointer (some ⟨b, 0, none⟩), v, .int .i64 (d : Nat)] 155) := by
  rw [hgrow.block b hlt (fun e => hne e.symm)]; exact hbk
 have d1 := cell_of hb2 1 (v := v) rfl
 have f1 := frozen_of hb2 1
 obtain ⟨ao, n', cap, rfl⟩ : ∃ ao n' cap, v' = .slice ao n' cap := by
  rcases hown'.2 with ⟨hv, _⟩ | ⟨g, cap, cur, hv, _⟩
  ·exact ⟨_, _, _, hv⟩
  ·exact ⟨_, _, _, hv⟩
 have hne2 : (Value.slice ao n' cap).ownBlock ≠ some b := by
  intro e
  rcases hown'.2 with ⟨hv, _⟩ | ⟨g, cap', cur, hv, _, hg, _⟩
  ·rw [hv] at e; simp [Value.ownBlock] at e
  ·rw [hv] at e
   simp [Value.ownBlock] at e
   subst e
   rw [hb2] at hg
   simp at hg
 have HP : Hid (PrAt B b d (t ++ s.data.toList) (w2.setCell ⟨b, 1, none⟩ (.slice ao n' cap))) := by
  refine ⟨_, .slice ao n' cap, ?_, .inr rfl, ?_, hne2, hB⟩
  ·rw [heap_setCell_at hb2 1 (.slice ao n' cap)]; rfl
  ·have := ownsRow_setCell_other hown' (a := ⟨b, 1, none⟩) hne2 (.slice ao n' cap)
   rw [byteCells_append] at this
   simpa using this
 have hk2 : PKeep B b w1 (w2.setCell ⟨b, 1, none⟩ (.slice ao n' cap)) := by
  refine ⟨((Below.refl B w1).grown hgrow (by omega) (fun k hk => (ownsRow_lt hown k hk).1)).setCell (p := ⟨b, 1, none⟩) hB _, fun k hk hkb hn => ?_⟩
  rw [Below.heap_setCell _ _ _ _ hkb]
  refine hgrow.block k hk (fun e => ?_)
  rcases hown.2 with ⟨hv, _⟩ | ⟨g, cap', cur, hv, _, hg, _⟩
  ·rw [hv] at e; simp [Value.ownBlock] at e
  ·rw [hv] at e
   simp [Value.ownBlock] at e
   subst e
   exact hn _ _ hg
 have HB : Hid (PKeep B b w (w2.setCell ⟨b, 1, none⟩ (.slice ao n' cap))) := hb1.trans hk2
 clear hk2
 clear hown' hgrow hown
 go_wp2
 go_ret2
 exact ⟨rfl, HP.out, HB.out⟩
end Go.Proofs.YtiopfihjmkfdmaaGreatDoor
namespace Go.Proofs.YtiopfihjmkfdmaaGreatDoor
open Go.RowKit
set_option maxRecDepth 100000
set_option maxHeartbeats 1000000
theorem string_calls (B b d : Nat) (l : Sp.Bs) (w : World) (h : PrAt B b d l w) (h0 : l ≠ []) :
  Calls Tryz.prog 60 #[.pointer (some ⟨b, 0, none⟩)] w fun e w' => e = .returned (.string ⟨l.toArray⟩) ∧ Below B w w' := by
 obtain ⟨p, v, hbk, _, hown, hne, hB⟩ := h
 have hl0 : l.length ≠ 0 := by simpa using h0
 obtain ⟨g, cap, cur, rfl, hbg, hg, hnc, hcm, hcs, htake⟩ : ∃ g cap cur, v = .slice (some ⟨g, 0, none⟩) l.length cap ∧ B ≤ g ∧ w.heap[g]? = some (.cells cur 5 (0, 0)) ∧ l.length ≤ cap ∧ cap ≤ maxLen ∧ cur.size = cap * 1 ∧ cur.toList.take (l.length * 1) = Lib.byteCells l := by
  rcases hown.2 with ⟨_, hz⟩ | ⟨g, cap, cur, hv, r⟩
  ·exact absurd hz hl0
  ·exact ⟨g, cap, cur, hv, r⟩
 have c1 : w.drew.cell? ⟨b, 1, none⟩ = some (.slice (some ⟨g, 0, none⟩) l.length cap) := cell_of (w := w.drew) hbk 1 rfl
 have hSD : (Builtin.unsafeSliceData_ #[151] 236 #[.slice (some ⟨g, 0, none⟩) l.length cap]).run Tryz.prog w.drew = .ok (.pointer (some ⟨g, 0, none⟩)) w.drew :=
  Lib.run_unsafeSliceData_row _ _ _ _ _ _ (by omega)
 have hUS : (Builtin.unsafeString_ #[236, 3] 9 #[.pointer (some ⟨g, 0, none⟩), .int .i64 l.length]).run Tryz.prog w.drew = .ok (.string ⟨l.toArray⟩) (w.drew.freeze ⟨g, 0, none⟩ l.length) := by
  refine Lib.run_unsafeString_row w.drew 236 3 9 5 Tryz.underlying236 cellsByte g cur.size (by have hg' : w.drew.heap[g]? = some (.cells cur 5 (0, 0)) := hg; simp [World.shape?, hg']) l h0 (by omega) (by unfold maxLen at hcm; omega) ?_
  intro j x hx
  have := hown.cells (g := g) rfl j (.int .u8 x.toNat) (by simp [Lib.byteCells, hx])
  exact this
 clear hown htake hcs hg hbk
 go_enter Tryz.func60, Tryz.ntmps60
 go_wp2
 go_region
 all_goals (go_wp2; go_ret; exact ⟨rfl, Lib.below_freeze (Below.drew (Below.refl B w)) (p := ⟨g, 0, none⟩) hbg _⟩)
theorem string_none (b : Nat) (p d : Value) (B : Nat) (w : World) (hbk : w.heap[b]? = some (.cells #[p, .slice none 0 0, d] 155)) :
  Calls Tryz.prog 60 #[.pointer (some ⟨b, 0, none⟩)] w fun e w' => e = .returned (.string ⟨#[]⟩) ∧ Below B w w' := by
 have hUS := fun (W : World) (q : Option Addr) => Lib.run_unsafeString_none (P := Tryz.prog) W 236 3 9 q
 have c1 : w.drew.cell? ⟨b, 1, none⟩ = some (.slice none 0 0) := cell_of (w := w.drew) hbk 1 rfl
 have hSD : (Builtin.unsafeSliceData_ #[151] 236 #[.slice none 0 0]).run Tryz.prog w.drew = .ok (.pointer none) w.drew := rfl
 go_enter Tryz.func60, Tryz.ntmps60
 go_wp2
 go_region
 all_goals (go_wp2; go_ret; exact ⟨rfl, Below.drew (Below.refl B w)⟩)
end Go.Proofs.YtiopfihjmkfdmaaGreatDoor
namespace Go.Proofs.YtiopfihjmkfdmaaGreatDoor
open Go.RowKit
set_option maxRecDepth 100000
set_option maxHeartbeats 400000
def SumSays (v : Value) (t : Sp.Bs) : Prop := t.length ≤ 2000000 → ∀ w, Laid w → Calls Tryz.prog 125 #[v] w fun e w' => e = .returned (.string ⟨t.toArray⟩) ∧ Below w.heap.size w w'
def PartSays (v : Value) (x : Nat × Sp.Bs) : Prop := x.2.length ≤ 2000000 → ∀ (least : Nat) w, least ≤ 2 → Laid w → Calls Tryz.prog 171 #[v, .int .i64 least] w fun e w' => e = .returned (.string ⟨(Sp.part x least).toArray⟩) ∧ Below w.heap.size w w'
theorem digitsF_eq : ∀ (f n : Nat), n < 10 ^ (f + 1) → Sp.digitsF (f + 1) n = Lib.decDigits n
 | 0, n, h => by
  unfold Sp.digitsF
  rw [if_pos (by omega), Lib.decDigits_one (by omega)]
 | f + 1, n, h => by
  unfold Sp.digitsF
  rw [Lib.decDigits]
  by_cases h10 : n < 10
  ·rw [if_pos h10, dif_pos h10]
  ·rw [if_neg h10, dif_neg h10, digitsF_eq f (n / 10) (by rw [Nat.pow_succ] at h; omega)]
theorem digits_eq (n : Nat) (h : n ≤ 32767) : Lib.itoa (n : Int) = Sp.digits n := by
 unfold Lib.itoa Sp.digits
 rw [if_neg (by omega), digitsF_eq 19 n (by omega)]
 simp
theorem itoa_calls (n : Nat) (hn : n ≤ 32767) (w : World) (hL : Laid w) :
  Calls Tryz.prog 170 #[.int .i64 n] w fun e w' => e = .returned (.string ⟨(Sp.digits n).toArray⟩) ∧ Below w.heap.size w w' := by
 refine (Tryz.strconv_Itoa (n : Int) (by omega) (by omega) w hL.pow).mono ?_
 rintro e w' ⟨rfl, k, os, rfl⟩
 exact ⟨by rw [digits_eq n hn], Lib.below_grow _ _ (Nat.le_refl _) _ _⟩
theorem text_calls (k : Nat) (hk : k < 8) (w : World) :
  Calls Tryz.prog 124 #[.int .i64 k] w fun e w' => e = .returned (.string ⟨(Sp.letter k).toArray⟩) ∧ w' = w := by
 rcases (show k = 0 ∨ k = 1 ∨ k = 2 ∨ k = 3 ∨ k = 4 ∨ k = 5 ∨ k = 6 ∨ k = 7 from by omega) with rfl | rfl | rfl | rfl | rfl | rfl | rfl | rfl
 all_goals
  go_enter Tryz.func124, Tryz.ntmps124
  go_wp2_with fail
  go_ret
  exact ⟨ret_str rfl, rfl⟩
theorem num_sum (n : Nat) (hn : n ≤ 32767) : SumSays (.iface 226 (.int .i16 n)) (Sp.digits n) := by
 intro _ w hL
 have h1 := ta_num_num (.int .i16 n)
 go_enter Tryz.func125, Tryz.ntmps125
 go_wp2_with fail
 refine (itoa_calls n hn _ hL).mono ?_
 rintro e w' ⟨rfl, hb⟩
 go_wp2_with fail
 go_ret
 exact ⟨rfl, hb⟩
theorem name_sum (k : Nat) (hk : k < 8) : SumSays (.iface 275 (.int .i64 k)) (Sp.letter k) := by
 intro _ w hL
 have h1 := ta_name_num (.int .i64 k)
 have h2 := ta_name_name (.int .i64 k)
 go_enter Tryz.func125, Tryz.ntmps125
 go_wp2_with fail
 refine (text_calls k hk _).mono ?_
 rintro e w' ⟨rfl, rfl⟩
 go_wp2_with fail
 go_ret
 exact ⟨rfl, Below.refl _ _⟩
theorem lvl_num (n : Int) (w : World) : Calls Tryz.prog 346 #[.int .i16 n] w fun e w' => e = .returned (.int .i64 2) ∧ Below w.heap.size w w' := by
 go_enter Tryz.func346, Tryz.ntmps346
 go_wp2_with fail
 go_ret
 exact ⟨rfl, by repeat (first | exact Below.refl _ _ | refine Below.alloc ?_ (Nat.le_refl _) _)⟩
theorem lvl_name (n : Int) (w : World) : Calls Tryz.prog 358 #[.int .i64 n] w fun e w' => e = .returned (.int .i64 2) ∧ Below w.heap.size w w' := by
 go_enter Tryz.func358, Tryz.ntmps358
 go_wp2_with fail
 go_ret
 exact ⟨rfl, by repeat (first | exact Below.refl _ _ | refine Below.alloc ?_ (Nat.le_refl _) _)⟩
theorem lvl_neg (tv : TypeId) (uv : Value) (w : World) : Calls Tryz.prog 359 #[.agg #[.iface tv uv]] w fun e w' => e = .returned (.int .i64 2) ∧ Below w.heap.size w w' := by
 go_enter Tryz.func359, Tryz.ntmps359
 go_wp2_with fail
 go_ret
 exact ⟨rfl, by repeat (first | exact Below.refl _ _ | refine Below.alloc ?_ (Nat.le_refl _) _)⟩
theorem m_num (x : Value) (w : World) : (method 587 226 x "Level").run Tryz.prog w = .ok (346, x) w := by kernel_rfl
theorem m_name (x : Value) (w : World) : (method 587 275 x "Level").run Tryz.prog w = .ok (358, x) w := by kernel_rfl
theorem m_neg (x : Value) (w : World) : (method 587 330 (.agg #[x]) "Level").run Tryz.prog w = .ok (359, .agg #[x]) w := by kernel_rfl
theorem m_bin (k q : Int) (x y : Value) (w : World) : (method 587 334 (.agg #[.int .i64 k, .int .i64 q, x, y]) "Level").run Tryz.prog w = .ok (172, .int .i64 k) w := by kernel_rfl
theorem num_part (n : Nat) (t : Sp.Bs) (hs : SumSays (.iface 226 (.int .i16 n)) t) : PartSays (.iface 226 (.int .i16 n)) (2, t) := by
 intro hlen least w hle hL
 have hp : Sp.part (2, t) least = t := by unfold Sp.part; rw [if_neg (by simp; omega)]
 rw [hp]
 have hm := m_num (.int .i16 n)
 have hd : ¬ (2 : Int) < (least : Int) := by omega
 go_enter Tryz.func171, Tryz.ntmps171
 go_wp2_with fail
 refine (lvl_num n _).mono ?_
 rintro e w1 ⟨rfl, hb1⟩
 go_wp2_with fail
 refine (hs hlen w1 (hL.below hb1 (hL.size))).mono ?_
 rintro e w2 ⟨rfl, hb2⟩
 go_wp2_with fail
 go_ret
 exact ⟨rfl, hb1.trans (hb2.mono hb1.size)⟩
theorem name_part (n : Nat) (t : Sp.Bs) (hs : SumSays (.iface 275 (.int .i64 n)) t) : PartSays (.iface 275 (.int .i64 n)) (2, t) := by
 intro hlen least w hle hL
 have hp : Sp.part (2, t) least = t := by unfold Sp.part; rw [if_neg (by simp; omega)]
 rw [hp]
 have hm := m_name (.int .i64 n)
 have hd : ¬ (2 : Int) < (least : Int) := by omega
 go_enter Tryz.func171, Tryz.ntmps171
 go_wp2_with fail
 refine (lvl_name n _).mono ?_
 rintro e w1 ⟨rfl, hb1⟩
 go_wp2_with fail
 refine (hs hlen w1 (hL.below hb1 (hL.size))).mono ?_
 rintro e w2 ⟨rfl, hb2⟩
 go_wp2_with fail
 go_ret
 exact ⟨rfl, hb1.trans (hb2.mono hb1.size)⟩
theorem neg_part (tv : TypeId) (uv : Value) (t : Sp.Bs) (hs : SumSays (.iface 330 (.agg #[.iface tv uv])) t) : PartSays (.iface 330 (.agg #[.iface tv uv])) (2, t) := by
 intro hlen least w hle hL
 have hp : Sp.part (2, t) least = t := by unfold Sp.part; rw [if_neg (by simp; omega)]
 rw [hp]
 have hm := m_neg (.iface tv uv)
 have hd : ¬ (2 : Int) < (least : Int) := by omega
 go_enter Tryz.func171, Tryz.ntmps171
 go_wp2_with fail
 refine (lvl_neg tv uv _).mono ?_
 rintro e w1 ⟨rfl, hb1⟩
 go_wp2_with fail
 refine (hs hlen w1 (hL.below hb1 (hL.size))).mono ?_
 rintro e w2 ⟨rfl, hb2⟩
 go_wp2_with fail
 go_ret
 exact ⟨rfl, hb1.trans (hb2.mono hb1.size)⟩
theorem cat_bytes (a b : Sp.Bs) : (⟨a.toArray⟩ ++ ⟨b.toArray⟩ : ByteArray) = ⟨(a ++ b).toArray⟩ := by
 apply bytes_ext
 rw [Joins.data_append]
theorem part_le (x : Nat × Sp.Bs) (l : Nat) : x.2.length ≤ (Sp.part x l).length ∧ (Sp.part x l).length ≤ x.2.length + 2 := by
 unfold Sp.part
 split
 ·simp only [List.length_append, List.length_cons, List.length_nil]; omega
 ·omega
theorem neg_sum (tv : TypeId) (uv : Value) (x : Nat × Sp.Bs) (hs : PartSays (.iface tv uv) x) : SumSays (.iface 330 (.agg #[.iface tv uv])) ([45] ++ Sp.part x 2) := by
 intro hlen w hL
 have h1 := ta_neg_num (.agg #[.iface tv uv])
 have h2 := ta_neg_name (.agg #[.iface tv uv])
 have h3 := ta_neg_neg (.agg #[.iface tv uv])
 have hpl := part_le x 2
 have hb : 1 + (Sp.part x 2).length ≤ 2000000 := by simp at hlen; omega
 have hl2 : x.2.length ≤ 2000000 := by omega
 have hc : ∀ w, Laid w → Calls Tryz.prog 171 #[.iface tv uv, .int .i64 2] w fun e w' => e = .returned (.string ⟨(Sp.part x 2).toArray⟩) ∧ Below w.heap.size w w' := fun w hL => hs hl2 2 w (by omega) hL
 have hLw := fun o => hL.below ((Below.refl w.heap.size w).alloc (Nat.le_refl _) o) hL.size
 generalize Sp.part x 2 = p at *
 go_enter Tryz.func125, Tryz.ntmps125
 go_wp2_with fail
 refine (hc _ (hLw _)).mono ?_
 rintro e w1 ⟨rfl, hb1⟩
 go_wp2_with fail
 go_ret
 exact ⟨ret_str (cat_bytes [45] p), ((Below.refl w.heap.size w).alloc (Nat.le_refl _) _).trans (hb1.mono (by simp))⟩
end Go.Proofs.YtiopfihjmkfdmaaGreatDoor
