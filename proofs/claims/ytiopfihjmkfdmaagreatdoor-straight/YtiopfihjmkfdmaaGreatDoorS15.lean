import Derived.Test.YtiopfihjmkfdmaaGreatDoorS9
import Derived.Test.YtiopfihjmkfdmaaGreatDoorS14
import Derived.WalkKit
import Derived.LaidEql
import Derived.Stop.Asserts
import Derived.RowKitTokens
namespace Go.Proofs.YtiopfihjmkfdmaaGreatDoor
namespace Sp
theorem digitsF_le : ∀ (f n : Nat), (digitsF f n).length ≤ f
 | 0, _ => by simp [digitsF]
 | f + 1, n => by
  unfold digitsF
  split
  ·simp
  ·have := digitsF_le f (n / 10)
   simp; omega
theorem opSign_one (k : Nat) : (opSign k).length = 1 := by unfold opSign; split <;> rfl
theorem relSign_two (k : Nat) : (relSign k).length ≤ 2 := by unfold relSign; split <;> decide
theorem part_len (x : Nat × Bs) (l : Nat) : (part x l).length ≤ x.2.length + 2 := by
 unfold part
 split
 ·simp only [List.length_append, List.length_cons, List.length_nil]; omega
 ·omega
def slen (x : Pr.S) : Nat := List.length (α := UInt8) (Prod.snd (α := Nat) (β := Bs) x)
def tlen (f : Pr.T) (d : Nat) : Nat := List.length (α := UInt8) ((show Nat → Bs from f) d)
def llen (xs : List Pr.T) (d : Nat) : Nat := List.length (α := UInt8) (lines d xs)
theorem slen_bin (k : Nat) (x z : Pr.S) : slen (Pr.bin k x z) ≤ slen x + slen z + 7 := by
 show (part x (opLevel k) ++ [32] ++ opSign k ++ [32] ++ part z (opLevel k + 1)).length ≤ _
 have a1 := part_len x (opLevel k)
 have a2 := part_len z (opLevel k + 1)
 have a3 := opSign_one k
 simp only [List.length_append, List.length_cons, List.length_nil]
 unfold slen
 omega
theorem slen_num (v : Nat) : slen (Pr.num v) ≤ 20 := digitsF_le 20 v
theorem slen_name (k : Nat) : slen (Pr.name k) = 1 := rfl
theorem slen_neg (z : Pr.S) : slen (Pr.neg z) ≤ slen z + 3 := by
 show ([45] ++ part z 2).length ≤ _
 have h3 := part_len z 2
 simp only [List.length_append, List.length_cons, List.length_nil]
 unfold slen
 omega
theorem opOf_next_lt {l : Bs} {k : Nat} (h : opOf (tok l) = some k) : (next l).length < l.length := by
 apply next_lt
 rw [← tok_length]
 apply List.length_pos_iff.2
 intro e
 rw [e] at h
 simp [opOf] at h
def Short (u : Bs → R Pr.S) : Prop := ∀ l x l1, u l = .ok (x, l1) → l1.length < l.length ∧ slen x + 4 ≤ 32 * (l.length - l1.length)
theorem pChain_short {lv : Nat} {u : Bs → R Pr.S} (hu : Short u) : ∀ (m : Nat) (x : Pr.S) (l : Bs) (y : Pr.S) (l1 : Bs), pChain Pr lv u m x l = .ok (y, l1) → l1.length ≤ l.length ∧ slen y ≤ slen x + 32 * (l.length - l1.length)
 | 0, x, l, y, l1, h => by
  unfold pChain at h
  cases h; exact ⟨Nat.le_refl _, by omega⟩
 | m + 1, x, l, y, l1, h => by
  unfold pChain at h
  split at h
  ·rename_i k hk
   split at h
   ·split at h
    ·rename_i z l2 hr
     obtain ⟨h1, h2⟩ := hu _ z _ hr
     have h3 := opOf_next_lt hk
     obtain ⟨h4, h5⟩ := pChain_short hu m _ _ y _ h
     have h6 := slen_bin k x z
     exact ⟨by omega, by omega⟩
    ·cases h
   ·cases h; exact ⟨Nat.le_refl _, by omega⟩
  ·cases h; exact ⟨Nat.le_refl _, by omega⟩
theorem pWith_short {lv : Nat} {u : Bs → R Pr.S} (hu : Short u) : Short (pWith Pr lv u) := by
 intro l y l1 h
 unfold pWith at h
 split at h
 ·rename_i x l2 hr
  obtain ⟨h1, h2⟩ := hu _ x _ hr
  obtain ⟨h3, h4⟩ := pChain_short hu _ x _ y _ h
  exact ⟨by omega, by omega⟩
 ·cases h
theorem pUnary_short : ∀ (n o : Nat), Short (pUnary Pr n o)
 | 0, o => fun l x l1 h => by unfold pUnary bad at h; cases h
 | n + 1, o => fun l x l1 h => by
  have hlt := pUnary_lt (A := Pr) (n + 1) o l x l1 h
  refine ⟨hlt, ?_⟩
  unfold pUnary at h
  split at h
  ·split at h
   ·rename_i v hv
    cases h
    have := slen_num v
    omega
   ·cases h
  ·split at h
   ·split at h
    ·rename_i k l2 hr
     cases h
     have := slen_name k
     omega
    ·cases h
   ·split at h
    ·split at h
     ·rename_i l2 hr
      obtain ⟨ht, _, rfl⟩ := enter_ok_iff hr
      have h0 := next_lt_of_tok ht (by simp)
      split at h
      ·rename_i z l3 hr2
       obtain ⟨h1, h2⟩ := pUnary_short n _ _ z _ hr2
       cases h
       have := slen_neg z
       omega
      ·cases h
     ·cases h
    ·split at h
     ·rename_i l2 hr
      obtain ⟨ht, _, rfl⟩ := enter_ok_iff hr
      have h0 := next_lt_of_tok ht (by simp)
      split at h
      ·rename_i z l3 hr2
       obtain ⟨h1, h2⟩ := pWith_short (pWith_short (pUnary_short n (o + 1))) _ z _ hr2
       split at h
       ·rename_i l4 hr3
        have h3 := take_le hr3
        cases h
        omega
       ·cases h
      ·cases h
     ·cases h
theorem pS_short (o : Nat) (l : Bs) (x : Pr.S) (l1 : Bs) (h : pS Pr o l = .ok (x, l1)) : l1.length < l.length ∧ slen x + 4 ≤ 32 * (l.length - l1.length) :=
 pWith_short (pWith_short (pUnary_short (l.length + 1) o)) l x l1 h
def clen (k : Nat) (x y : Pr.S) : Nat := List.length (α := UInt8) (condText k x y)
theorem clen_le (k : Nat) (x y : Pr.S) : clen k x y ≤ slen x + slen y + 4 := by
 have h4 := relSign_two k
 show ((Prod.snd (α := Nat) (β := Bs) x) ++ [32] ++ relSign k ++ [32] ++ (Prod.snd (α := Nat) (β := Bs) y)).length ≤ _
 simp only [List.length_append, List.length_cons, List.length_nil]
 unfold slen
 omega
theorem pCond_short {o : Nat} {l : Bs} {k : Nat} {x y : Pr.S} {l1 : Bs} (h : pCond Pr o l = .ok ((k, x, y), l1)) : l1.length < l.length ∧ clen k x y ≤ 32 * (l.length - l1.length) := by
 refine ⟨pCond_lt h, ?_⟩
 unfold pCond at h
 split at h
 ·rename_i x' l2 hr
  have h1 := pS_short _ _ x' _ hr
  split at h
  ·split at h
   ·rename_i y' l3 hr2
    have h2 := pS_short _ _ y' _ hr2
    have h3 := next_le l2
    cases h
    have h4 := clen_le k x y
    omega
   ·cases h
  ·cases h
 ·cases h
theorem padLen (d : Nat) : (pad d).length = 2 * d := by simp [pad]
theorem lines_append (d : Nat) (xs ys : List (Nat → Bs)) : lines d (xs ++ ys) = lines d xs ++ lines d ys := by simp [lines]
theorem lines_one (d : Nat) (f : Nat → Bs) : lines d [f] = f d := by simp [lines]
theorem llen_append (d : Nat) (xs ys : List Pr.T) : llen (xs ++ ys) d = llen xs d + llen ys d :=
 (congrArg List.length (lines_append d xs ys)).trans List.length_append
theorem llen_one (d : Nat) (f : Pr.T) : llen [f] d = tlen f d := congrArg List.length (lines_one d f)
theorem llen_nil (d : Nat) : llen [] d = 0 := rfl
def ShortT (K : Nat) (st : Bs → R Pr.T) : Prop := ∀ l f l1, st l = .ok (f, l1) → l1.length < l.length ∧ ∀ d, tlen f d ≤ (K + 8 * d) * (l.length - l1.length)
theorem pMany_short {K : Nat} {st : Bs → R Pr.T} (hs : ShortT K st) : ∀ (m : Nat) (xs : List Pr.T) (l : Bs) (ys : List Pr.T) (l1 : Bs), pMany Pr st m xs l = .ok (ys, l1) → l1.length ≤ l.length ∧ ∀ d, llen ys d ≤ llen xs d + (K + 8 * d) * (l.length - l1.length)
 | 0, xs, l, ys, l1, h => by unfold pMany at h; cases h; exact ⟨Nat.le_refl _, fun d => by omega⟩
 | m + 1, xs, l, ys, l1, h => by
  unfold pMany at h
  split at h
  ·split at h
   ·rename_i f l2 hr
    obtain ⟨h1, h2⟩ := hs _ f _ hr
    obtain ⟨h3, h4⟩ := pMany_short hs m _ _ _ _ h
    refine ⟨by omega, fun d => ?_⟩
    have h5 := h2 d
    have h6 := h4 d
    rw [llen_append, llen_one] at h6
    have h8 : l.length - l1.length = (l.length - l2.length) + (l2.length - l1.length) := by omega
    rw [h8, Nat.mul_add]
    omega
   ·cases h
  ·cases h; exact ⟨Nat.le_refl _, fun d => by omega⟩
theorem pBlock_short {K : Nat} {st : Bs → R Pr.T} (hs : ShortT K st) {o : Nat} {l : Bs} {xs : List Pr.T} {l1 : Bs} (h : pBlock Pr st o l = .ok (xs, l1)) : l1.length < l.length ∧ ∀ d, llen xs d ≤ (K + 8 * d) * (l.length - l1.length - 1) := by
 refine ⟨pBlock_lt (fun l x l1 h => (hs l x l1 h).1) h, ?_⟩
 unfold pBlock at h
 split at h
 ·rename_i l2 hr
  obtain ⟨ht, _, rfl⟩ := enter_ok_iff hr
  have h0 := next_lt_of_tok ht (by simp)
  split at h
  ·rename_i ys l3 hr2
   obtain ⟨h1, h2⟩ := pMany_short hs _ _ _ _ _ hr2
   split at h
   ·rename_i l4 hr3
    have h3 := take_le hr3
    cases h
    intro d
    have h4 := h2 d
    rw [llen_nil] at h4
    have h6 : (next l).length - l3.length ≤ l.length - l1.length - 1 := by omega
    have h7 := Nat.mul_le_mul_left (K + 8 * d) h6
    omega
   ·cases h
  ·cases h
 ·cases h
theorem tlen_assign (k : Nat) (x : Pr.S) (d : Nat) : tlen (Pr.assign k x) d = 2 * d + slen x + 6 := by
 show (pad d ++ letter k ++ [32, 61, 32] ++ (Prod.snd (α := Nat) (β := Bs) x) ++ [59, 10]).length = _
 simp only [List.length_append, List.length_cons, List.length_nil, padLen]
 have : (letter k).length = 1 := rfl
 unfold slen
 omega
theorem tlen_read (k : Nat) (d : Nat) : tlen (Pr.read k) d = 2 * d + 8 := by
 show (pad d ++ [114, 101, 97, 100, 32] ++ letter k ++ [59, 10]).length = _
 simp only [List.length_append, List.length_cons, List.length_nil, padLen]
 have : (letter k).length = 1 := rfl
 omega
theorem tlen_assert (k : Nat) (x y : Pr.S) (d : Nat) : tlen (Pr.assert k x y) d = 2 * d + clen k x y + 9 := by
 show (pad d ++ [97, 115, 115, 101, 114, 116, 32] ++ condText k x y ++ [59, 10]).length = _
 simp only [List.length_append, List.length_cons, List.length_nil, padLen]
 unfold clen
 omega
theorem tlen_ite (k : Nat) (x y : Pr.S) (xs : List Pr.T) (d : Nat) : tlen (Pr.ite k x y xs none) d = 4 * d + clen k x y + 8 + llen xs (d + 1) := by
 show (pad d ++ [105, 102, 32] ++ condText k x y ++ [32, 123, 10] ++ lines (d + 1) xs ++ [] ++ pad d ++ [125, 10]).length = _
 simp only [List.length_append, List.length_cons, List.length_nil, padLen]
 unfold clen llen
 omega
theorem tlen_iteElse (k : Nat) (x y : Pr.S) (xs ys : List Pr.T) (d : Nat) : tlen (Pr.ite k x y xs (some ys)) d = 6 * d + clen k x y + 17 + llen xs (d + 1) + llen ys (d + 1) := by
 show (pad d ++ [105, 102, 32] ++ condText k x y ++ [32, 123, 10] ++ lines (d + 1) xs ++ (pad d ++ [125, 32, 101, 108, 115, 101, 32, 123, 10] ++ lines (d + 1) ys) ++ pad d ++ [125, 10]).length = _
 simp only [List.length_append, List.length_cons, List.length_nil, padLen]
 unfold clen llen
 omega
theorem tlen_loop (k : Nat) (x y : Pr.S) (xs : List Pr.T) (d : Nat) : tlen (Pr.loop k x y xs) d = 4 * d + clen k x y + 11 + llen xs (d + 1) := by
 show (pad d ++ [119, 104, 105, 108, 101, 32] ++ condText k x y ++ [32, 123, 10] ++ lines (d + 1) xs ++ pad d ++ [125, 10]).length = _
 simp only [List.length_append, List.length_cons, List.length_nil, padLen]
 unfold clen llen
 omega
theorem mul_ge (F c : Nat) (h : 1 ≤ c) : F ≤ F * c := Nat.le_mul_of_pos_right F h
theorem mul_two (F a b c : Nat) (h : a + b ≤ c) : F * a + F * b ≤ F * c := by
 rw [← Nat.mul_add]; exact Nat.mul_le_mul_left F h
theorem pStmt_short : ∀ (n o : Nat), ShortT (80 + 8 * n) (pStmt Pr n o)
 | 0, o => fun l f l1 h => by unfold pStmt bad at h; cases h
 | n + 1, o => fun l f l1 h => by
  have hlt := pStmt_lt (A := Pr) (n + 1) o l f l1 h
  refine ⟨hlt, fun d => ?_⟩
  have hb : ∀ l xs l1, pBlock Pr (pStmt Pr n (o + 1)) o l = .ok (xs, l1) → l1.length < l.length ∧ ∀ d, llen xs d ≤ (80 + 8 * n + 8 * d) * (l.length - l1.length - 1) := fun l xs l1 h => pBlock_short (pStmt_short n (o + 1)) h
  have hn := next_le l
  have hF : 80 + 8 * (n + 1) + 8 * d = 80 + 8 * n + 8 * (d + 1) := by omega
  rw [hF]
  generalize hG : 80 + 8 * n + 8 * (d + 1) = F
  have hF2 : 88 + 8 * d ≤ F := by omega
  have hcond : ∀ c : Nat, 32 * c ≤ F * c := fun c => Nat.mul_le_mul_right c (by omega)
  unfold pStmt at h
  split at h
  ·unfold pRead at h
   split at h
   ·split at h
    ·cases h
     have hg := mul_ge F (l.length - l1.length) (by omega)
     rw [tlen_read]; omega
    ·cases h
   ·cases h
  ·split at h
   ·rename_i ht
    have hnl := next_lt_of_tok ht (by decide)
    unfold pAssert at h
    split at h
    ·rename_i k x y l2 hr
     have h1 := pCond_short hr
     split at h
     ·rename_i l3 hr2
      have h2 := take_le hr2
      cases h
      rw [tlen_assert]
      have a1 := hcond ((next l).length - l2.length)
      have a2 := mul_two F 1 ((next l).length - l2.length) (l.length - l1.length) (by omega)
      omega
     ·cases h
    ·cases h
   ·split at h
    ·rename_i ht
     have hnl := next_lt_of_tok ht (by decide)
     unfold pIf at h
     split at h
     ·rename_i k x y l2 hr
      have h1 := pCond_short hr
      have a1 := hcond ((next l).length - l2.length)
      split at h
      ·rename_i xs l3 hr2
       obtain ⟨h2, h3⟩ := hb _ _ _ hr2
       have h4 := h3 (d + 1)
       rw [hG] at h4
       split at h
       ·split at h
        ·rename_i ys l4 hr3
         obtain ⟨h5, h6⟩ := hb _ _ _ hr3
         have h7 := h6 (d + 1)
         rw [hG] at h7
         have h8 := next_le l3
         cases h
         rw [tlen_iteElse]
         have b1 := mul_two F 1 ((next l).length - l2.length) ((next l).length - l2.length + 1) (by omega)
         have b2 := mul_two F ((next l).length - l2.length + 1) (l2.length - l3.length - 1) (l.length - l3.length) (by omega)
         have b3 := mul_two F (l.length - l3.length) ((next l3).length - l1.length - 1) (l.length - l1.length) (by omega)
         omega
        ·cases h
       ·cases h
        rw [tlen_ite]
        have b1 := mul_two F 1 ((next l).length - l2.length) ((next l).length - l2.length + 1) (by omega)
        have b2 := mul_two F ((next l).length - l2.length + 1) (l2.length - l1.length - 1) (l.length - l1.length) (by omega)
        omega
      ·cases h
     ·cases h
    ·split at h
     ·rename_i ht
      have hnl := next_lt_of_tok ht (by decide)
      unfold pWhile at h
      split at h
      ·rename_i k x y l2 hr
       have h1 := pCond_short hr
       have a1 := hcond ((next l).length - l2.length)
       split at h
       ·rename_i xs l3 hr2
        obtain ⟨h2, h3⟩ := hb _ _ _ hr2
        have h4 := h3 (d + 1)
        rw [hG] at h4
        cases h
        rw [tlen_loop]
        have b1 := mul_two F 1 ((next l).length - l2.length) ((next l).length - l2.length + 1) (by omega)
        have b2 := mul_two F ((next l).length - l2.length + 1) (l2.length - l1.length - 1) (l.length - l1.length) (by omega)
        omega
       ·cases h
      ·cases h
     ·unfold pAssign at h
      split at h
      ·rename_i k l2 hr
       have h0 := pName_lt hr
       split at h
       ·rename_i l3 hr2
        have h1 := take_le hr2
        split at h
        ·rename_i x l4 hr3
         have h2 := pS_short _ _ x _ hr3
         split at h
         ·rename_i l5 hr4
          have h3 := take_le hr4
          cases h
          rw [tlen_assign]
          have a1 := hcond (l3.length - l4.length)
          have a2 := mul_two F 1 (l3.length - l4.length) (l.length - l1.length) (by omega)
          omega
         ·cases h
        ·cases h
       ·cases h
      ·cases h
theorem parse_short {src : Bs} {xs : List Pr.T} (h : parse Pr src = .ok xs) : llen xs 0 ≤ 2000000 := by
 unfold parse at h
 split at h
 ·cases h
 ·rename_i hl
  split at h
  ·rename_i ys hr
   cases h
   unfold pProg at hr
   split at hr
   ·rename_i zs l1 hr2
    split at hr
    ·cases hr
     have h1 := (pMany_short (pStmt_short ((skip src).length + 1) 0) _ _ _ _ _ hr2).2 0
     rw [llen_nil] at h1
     have h2 := skip_le src
     have h3 : (80 + 8 * ((skip src).length + 1) + 8 * 0) * ((skip src).length - l1.length) ≤ 3288 * 400 := Nat.mul_le_mul (by omega) (by omega)
     omega
    ·cases hr
   ·cases hr
  ·cases h
end Sp
end Go.Proofs.YtiopfihjmkfdmaaGreatDoor
namespace Go.Proofs.YtiopfihjmkfdmaaGreatDoor
open Go.RowKit
set_option maxRecDepth 100000
set_option maxHeartbeats 400000
def PrintPost (w : World) : Except (Nat × Nat) Sp.Bs → Ending → World → Prop
 | .ok t, e, w' => e = .returned (.tuple #[.string ⟨t.toArray⟩, .nilIface]) ∧ Below w.heap.size w w'
 | .error er, e, w' => ∃ v, e = .returned (.tuple #[.string ⟨#[]⟩, v]) ∧ ErrAt w' w.heap.size v er ∧ Below w.heap.size w w'
theorem err_iface {w : World} {B : Nat} {v : Value} {er : Nat × Nat} (h : ErrAt w B v er) : ∃ t u, v = .iface t u := by
 rcases h with ⟨rfl, _⟩ | ⟨N, _, rfl, _⟩
 ·exact ⟨_, _, rfl⟩
 ·exact ⟨_, _, rfl⟩
theorem ErrAt.laid {w : World} {B : Nat} {v : Value} {er : Nat × Nat} (h : ErrAt w B v er) (o : Obj) : ErrAt (w.alloc o) B v er := by
 rcases h with h | ⟨N, h1, h2, h3⟩
 ·exact .inl h
 ·exact .inr ⟨N, h1, h2, heap_alloc_old h3⟩
theorem Print_calls (s : ByteArray) (w : World) (hs : s.size ≤ 1048576) (hL : Laid w) :
  Calls Tryz.prog 15 #[.string s] w (PrintPost w (Sp.print s.data.toList)) := by
 have hc := Program_calls RtPr s w hs hL
 unfold Sp.print
 cases hr : Sp.parse Sp.Pr s.data.toList with
 | error er =>
  rw [hr] at hc
  go_enter Tryz.func15, Tryz.ntmps15
  go_wp2_with fail
  refine hc.mono ?_
  rintro e w1 ⟨v, rfl, hv, b1⟩
  obtain ⟨tv, uv, rfl⟩ := err_iface hv
  have HV : Hid (ErrAt (w1.alloc (.cells #[.slice none 0 0, .int .i64 0, .int .i64 0, .slice none 0 0] 86)) w.heap.size (.iface tv uv) er) := hv.laid _
  clear hv hc
  go_wp2_with fail
  go_ret2
  exact ⟨_, rfl, HV.out, b1.alloc b1.size _⟩
 | ok xs =>
  rw [hr] at hc
  have hlen : (Sp.lines 0 xs).length ≤ 2000000 := Sp.parse_short hr
  go_enter Tryz.func15, Tryz.ntmps15
  go_wp2_with fail
  refine hc.mono ?_
  rintro e w1 ⟨v, ct1, nvv, ns1, rfl, hv, b1, hrow, hnums⟩
  obtain ⟨av, nv, cv, rfl⟩ := blk_slice hv
  obtain ⟨ax, nx, cx, rfl⟩ := row_slice0 hrow
  have b1' : Below w.heap.size w (w1.alloc (.cells #[.slice av nv cv, .int .i64 ct1.1, .int .i64 ct1.2, .slice ax nx cx] 86)) := b1.alloc b1.size _
  have ht := Text_calls w.heap.size w1.heap.size w1 (w1.alloc (.cells #[.slice av nv cv, .int .i64 ct1.1, .int .i64 ct1.2, .slice ax nx cx] 86)) (.slice av nv cv) xs hv (fun k _ h2 _ => Below.heap_alloc _ _ _ h2) (by simp) (hL.below b1' hL.size) hlen
  clear hc hv hrow hnums
  go_wp2_with fail
  refine ht.mono ?_
  rintro e w2 ⟨rfl, b2⟩
  go_wp2_with fail
  go_ret2
  exact ⟨rfl, b1'.trans (b2.mono b1'.size)⟩
end Go.Proofs.YtiopfihjmkfdmaaGreatDoor
namespace Go.Proofs.YtiopfihjmkfdmaaGreatDoor
open Go.RowKit Go.Extern.Stop Go.Stop Go.Extern
set_option maxRecDepth 100000
theorem methodKind (h : Value) (w : World) : (Go.method 587 238 (.agg #[h]) "Kind").run Tryz.prog w = .ok (288, h) w := by kernel_rfl
theorem methodElem (h : Value) (w : World) : (Go.method 587 238 (.agg #[h]) "Elem").run Tryz.prog w = .ok (350, .agg #[h]) w := by kernel_rfl
theorem methodImplements (h : Value) (w : World) : (Go.method 587 238 (.agg #[h]) "Implements").run Tryz.prog w = .ok (351, .agg #[h]) w := by kernel_rfl
theorem methodAssignableTo (h : Value) (w : World) : (Go.method 587 238 (.agg #[h]) "AssignableTo").run Tryz.prog w = .ok (348, .agg #[h]) w := by kernel_rfl
theorem valueOfPF (t : Addr) (w : World) : (ReflectliteValue.unpack (.iface 92 (.pointer (some t)))).run Tryz.prog w
  = .ok (.agg #[.pointer (some ⟨11, 92, none⟩), .pointer (some ⟨w.heap.size, 0, none⟩), .int .u64 150]) (w.alloc (.cells #[.pointer (some t)] 92)) := by kernel_rfl
theorem typePF (a : Addr) (w : World) : (ReflectliteValue.methodAny (ReflectliteValue.valueError "reflectlite.Value.Type" 0) (fun t _ _ _ => ReflectliteType.toType t) #[.agg #[.pointer (some ⟨11, 92, none⟩), .pointer (some a), .int .u64 150]]).run Tryz.prog w
  = .ok (.iface 238 (.agg #[.pointer (some ⟨11, 92, none⟩)])) w := by kernel_rfl
theorem kindPF (w : World) : ((ReflectliteType.abiMethod fun t => (fun a : Nat => Value.int IntKind.u8 (a : Int)) <$> Rtype.kind t) #[.pointer (some ⟨11, 92, none⟩)]).run Tryz.prog w = .ok (.int .u8 22) w := by kernel_rfl
theorem kindF (w : World) : ((ReflectliteType.abiMethod fun t => (fun a : Nat => Value.int IntKind.u8 (a : Int)) <$> Rtype.kind t) #[.pointer (some ⟨11, 90, none⟩)]).run Tryz.prog w = .ok (.int .u8 22) w := by kernel_rfl
theorem partsPF (a : Addr) (w : World) : (ReflectliteValue.parts (.agg #[.pointer (some ⟨11, 92, none⟩), .pointer (some a), .int .u64 150])).run Tryz.prog w = .ok (some (92, a, 150)) w := by kernel_rfl
theorem isNilPF (a p : Addr) (W : World) (ha : W.cell? a = some (.pointer (some p))) :
  (ReflectliteValue.method (ReflectliteValue.valueError "reflectlite.Value.IsNil" 0) ReflectliteValue.isNil #[.agg #[.pointer (some ⟨11, 92, none⟩), .pointer (some a), .int .u64 150]]).run Tryz.prog W = .ok (.bool false) W := by
 change (ReflectliteValue.parts (.agg #[.pointer (some ⟨11, 92, none⟩), .pointer (some a), .int .u64 150]) >>= _).run Tryz.prog W = _
 simp only [Sem.run_bind, partsPF, Result.andThen]
 simp [ReflectliteValue.isNil, loadVar, isAgg, underlying, Tryz.underlying92, ha, Result.andThen]
theorem elemPF (w : World) : (ReflectliteType.method ReflectliteType.elem #[.agg #[.pointer (some ⟨11, 92, none⟩)]]).run Tryz.prog w = .ok (.iface 238 (.agg #[.pointer (some ⟨11, 90, none⟩)])) w := by kernel_rfl
theorem implF (w : World) : (ReflectliteType.relation "Implements" ReflectliteType.implements_ #[.agg #[.pointer (some ⟨11, 90, none⟩)], .iface 238 (.agg #[.pointer (some ⟨11, 23, none⟩)])]).run Tryz.prog w = .ok (.bool true) w := by kernel_rfl
theorem typeOfF (v : Value) (w : World) : (ReflectliteType.typeOf #[.iface 90 v]).run Tryz.prog w = .ok (.iface 238 (.agg #[.pointer (some ⟨11, 90, none⟩)])) w := by kernel_rfl
theorem typeOfE (v : Value) (w : World) : (ReflectliteType.typeOf #[.iface 26 v]).run Tryz.prog w = .ok (.iface 238 (.agg #[.pointer (some ⟨11, 26, none⟩)])) w := by kernel_rfl
theorem assignF (w : World) : (ReflectliteType.relation "AssignableTo" ReflectliteType.assignableTo #[.agg #[.pointer (some ⟨11, 90, none⟩)], .iface 238 (.agg #[.pointer (some ⟨11, 90, none⟩)])]).run Tryz.prog w = .ok (.bool true) w := by kernel_rfl
theorem assignEF (w : World) : (ReflectliteType.relation "AssignableTo" ReflectliteType.assignableTo #[.agg #[.pointer (some ⟨11, 26, none⟩)], .iface 238 (.agg #[.pointer (some ⟨11, 90, none⟩)])]).run Tryz.prog w = .ok (.bool false) w := by kernel_rfl
theorem assignE (w : World) : (ReflectliteType.relation "AssignableTo" ReflectliteType.assignableTo #[.agg #[.pointer (some ⟨11, 26, none⟩)], .iface 238 (.agg #[.pointer (some ⟨11, 26, none⟩)])]).run Tryz.prog w = .ok (.bool true) w := by kernel_rfl
theorem valueOfF (e : Addr) (w : World) : (ReflectliteValue.unpack (.iface 90 (.pointer (some e)))).run Tryz.prog w
  = .ok (.agg #[.pointer (some ⟨11, 90, none⟩), .pointer (some ⟨w.heap.size, 0, none⟩), .int .u64 150]) (w.alloc (.cells #[.pointer (some e)] 90)) := by kernel_rfl
theorem elemOfPF (w : World) : (Rtype.elem? 92).run Tryz.prog w = .ok (some 90) w := by kernel_rfl
theorem mkF (p : Addr) (w : World) : (ReflectliteValue.mk 90 p ReflectliteValue.flagAddr).run Tryz.prog w = .ok (.agg #[.pointer (some ⟨11, 90, none⟩), .pointer (some p), .int .u64 406]) w := by kernel_rfl
theorem elemVPF (a p : Addr) (W : World) (ha : W.cell? a = some (.pointer (some p))) :
  (ReflectliteValue.method (ReflectliteValue.valueError "reflectlite.Value.Elem" 0) ReflectliteValue.elem #[.agg #[.pointer (some ⟨11, 92, none⟩), .pointer (some a), .int .u64 150]]).run Tryz.prog W
   = .ok (.agg #[.pointer (some ⟨11, 90, none⟩), .pointer (some p), .int .u64 406]) W := by
 change (ReflectliteValue.parts (.agg #[.pointer (some ⟨11, 92, none⟩), .pointer (some a), .int .u64 150]) >>= _).run Tryz.prog W = _
 simp only [Sem.run_bind, partsPF, Result.andThen]
 simp [ReflectliteValue.elem, loadVar, isAgg, underlying, Tryz.underlying92, ha, Result.andThen, elemOfPF, mkF]
theorem partsFa (a : Addr) (w : World) : (ReflectliteValue.parts (.agg #[.pointer (some ⟨11, 90, none⟩), .pointer (some a), .int .u64 406])).run Tryz.prog w = .ok (some (90, a, 406)) w := by kernel_rfl
theorem partsF (a : Addr) (w : World) : (ReflectliteValue.parts (.agg #[.pointer (some ⟨11, 90, none⟩), .pointer (some a), .int .u64 150])).run Tryz.prog w = .ok (some (90, a, 150)) w := by kernel_rfl
theorem directF (w : World) : (Rtype.directlyAssignable 90 90).run Tryz.prog w = .ok true w := by kernel_rfl
theorem setF (ta b e : Addr) (old : Value) (W : World) (hb : W.cell? b = some (.pointer (some e))) (ht : W.cell? ta = some old) (hf : W.frozen? ta = false) :
  (ReflectliteValue.set #[.agg #[.pointer (some ⟨11, 90, none⟩), .pointer (some ta), .int .u64 406], .agg #[.pointer (some ⟨11, 90, none⟩), .pointer (some b), .int .u64 150]]).run Tryz.prog W
   = .ok (.tuple #[]) (W.setCell ta (.pointer (some e))) := by
 change (ReflectliteValue.parts (.agg #[.pointer (some ⟨11, 90, none⟩), .pointer (some ta), .int .u64 406]) >>= fun _ => ReflectliteValue.parts (.agg #[.pointer (some ⟨11, 90, none⟩), .pointer (some b), .int .u64 150]) >>= _).run Tryz.prog W = _
 simp only [Sem.run_bind, partsFa, partsF, Result.andThen]
 simp [ReflectliteValue.flagAddr, loadVar, isAgg, underlying, Tryz.underlying90, hb, Result.andThen, directF, storeVar, Value.cells, storeCells, Addr.add]
 rw [run_store Tryz.prog W ta _ _ (by rfl)]
 simp [ht, hf]
theorem valueOfPE (t : Addr) (w : World) : (ReflectliteValue.unpack (.iface 98 (.pointer (some t)))).run Tryz.prog w
  = .ok (.agg #[.pointer (some ⟨11, 98, none⟩), .pointer (some ⟨w.heap.size, 0, none⟩), .int .u64 150]) (w.alloc (.cells #[.pointer (some t)] 98)) := by kernel_rfl
theorem typePE (a : Addr) (w : World) : (ReflectliteValue.methodAny (ReflectliteValue.valueError "reflectlite.Value.Type" 0) (fun t _ _ _ => ReflectliteType.toType t) #[.agg #[.pointer (some ⟨11, 98, none⟩), .pointer (some a), .int .u64 150]]).run Tryz.prog w
  = .ok (.iface 238 (.agg #[.pointer (some ⟨11, 98, none⟩)])) w := by kernel_rfl
theorem kindPE (w : World) : ((ReflectliteType.abiMethod fun t => (fun a : Nat => Value.int IntKind.u8 (a : Int)) <$> Rtype.kind t) #[.pointer (some ⟨11, 98, none⟩)]).run Tryz.prog w = .ok (.int .u8 22) w := by kernel_rfl
theorem kindE (w : World) : ((ReflectliteType.abiMethod fun t => (fun a : Nat => Value.int IntKind.u8 (a : Int)) <$> Rtype.kind t) #[.pointer (some ⟨11, 26, none⟩)]).run Tryz.prog w = .ok (.int .u8 2) w := by kernel_rfl
theorem partsPE (a : Addr) (w : World) : (ReflectliteValue.parts (.agg #[.pointer (some ⟨11, 98, none⟩), .pointer (some a), .int .u64 150])).run Tryz.prog w = .ok (some (98, a, 150)) w := by kernel_rfl
theorem isNilPE (a p : Addr) (W : World) (ha : W.cell? a = some (.pointer (some p))) :
  (ReflectliteValue.method (ReflectliteValue.valueError "reflectlite.Value.IsNil" 0) ReflectliteValue.isNil #[.agg #[.pointer (some ⟨11, 98, none⟩), .pointer (some a), .int .u64 150]]).run Tryz.prog W = .ok (.bool false) W := by
 change (ReflectliteValue.parts (.agg #[.pointer (some ⟨11, 98, none⟩), .pointer (some a), .int .u64 150]) >>= _).run Tryz.prog W = _
 simp only [Sem.run_bind, partsPE, Result.andThen]
 simp [ReflectliteValue.isNil, loadVar, isAgg, underlying, Tryz.underlying98, ha, Result.andThen]
theorem elemPE (w : World) : (ReflectliteType.method ReflectliteType.elem #[.agg #[.pointer (some ⟨11, 98, none⟩)]]).run Tryz.prog w = .ok (.iface 238 (.agg #[.pointer (some ⟨11, 26, none⟩)])) w := by kernel_rfl
theorem implE (w : World) : (ReflectliteType.relation "Implements" ReflectliteType.implements_ #[.agg #[.pointer (some ⟨11, 26, none⟩)], .iface 238 (.agg #[.pointer (some ⟨11, 23, none⟩)])]).run Tryz.prog w = .ok (.bool true) w := by kernel_rfl
theorem valueOfE (n : Int) (w : World) : (ReflectliteValue.unpack (.iface 26 (.int .i64 n))).run Tryz.prog w
  = .ok (.agg #[.pointer (some ⟨11, 26, none⟩), .pointer (some ⟨w.heap.size, 0, none⟩), .int .u64 130]) (w.alloc (.cells #[.int .i64 n] 26)) := by kernel_rfl
theorem elemOfPE (w : World) : (Rtype.elem? 98).run Tryz.prog w = .ok (some 26) w := by kernel_rfl
theorem mkE (p : Addr) (w : World) : (ReflectliteValue.mk 26 p ReflectliteValue.flagAddr).run Tryz.prog w = .ok (.agg #[.pointer (some ⟨11, 26, none⟩), .pointer (some p), .int .u64 386]) w := by kernel_rfl
theorem elemVPE (a p : Addr) (W : World) (ha : W.cell? a = some (.pointer (some p))) :
  (ReflectliteValue.method (ReflectliteValue.valueError "reflectlite.Value.Elem" 0) ReflectliteValue.elem #[.agg #[.pointer (some ⟨11, 98, none⟩), .pointer (some a), .int .u64 150]]).run Tryz.prog W
   = .ok (.agg #[.pointer (some ⟨11, 26, none⟩), .pointer (some p), .int .u64 386]) W := by
 change (ReflectliteValue.parts (.agg #[.pointer (some ⟨11, 98, none⟩), .pointer (some a), .int .u64 150]) >>= _).run Tryz.prog W = _
 simp only [Sem.run_bind, partsPE, Result.andThen]
 simp [ReflectliteValue.elem, loadVar, isAgg, underlying, Tryz.underlying98, ha, Result.andThen, elemOfPE, mkE]
theorem partsEa (a : Addr) (w : World) : (ReflectliteValue.parts (.agg #[.pointer (some ⟨11, 26, none⟩), .pointer (some a), .int .u64 386])).run Tryz.prog w = .ok (some (26, a, 386)) w := by kernel_rfl
theorem partsE (a : Addr) (w : World) : (ReflectliteValue.parts (.agg #[.pointer (some ⟨11, 26, none⟩), .pointer (some a), .int .u64 130])).run Tryz.prog w = .ok (some (26, a, 130)) w := by kernel_rfl
theorem directE (w : World) : (Rtype.directlyAssignable 26 26).run Tryz.prog w = .ok true w := by kernel_rfl
theorem setE (ta b : Addr) (n : Int) (old : Value) (W : World) (hb : W.cell? b = some (.int .i64 n)) (ht : W.cell? ta = some old) (hf : W.frozen? ta = false) :
  (ReflectliteValue.set #[.agg #[.pointer (some ⟨11, 26, none⟩), .pointer (some ta), .int .u64 386], .agg #[.pointer (some ⟨11, 26, none⟩), .pointer (some b), .int .u64 130]]).run Tryz.prog W
   = .ok (.tuple #[]) (W.setCell ta (.int .i64 n)) := by
 change (ReflectliteValue.parts (.agg #[.pointer (some ⟨11, 26, none⟩), .pointer (some ta), .int .u64 386]) >>= fun _ => ReflectliteValue.parts (.agg #[.pointer (some ⟨11, 26, none⟩), .pointer (some b), .int .u64 130]) >>= _).run Tryz.prog W = _
 simp only [Sem.run_bind, partsEa, partsE, Result.andThen]
 simp [ReflectliteValue.flagAddr, loadVar, isAgg, underlying, Tryz.underlying26, hb, Result.andThen, directE, storeVar, Value.cells, storeCells, Addr.add]
 rw [run_store Tryz.prog W ta _ _ (by rfl)]
 simp [ht, hf]
end Go.Proofs.YtiopfihjmkfdmaaGreatDoor
