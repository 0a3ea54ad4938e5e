import Derived.Test.YtiopfihjmkfdmaaGreatDoorU6
namespace Go.Proofs.YtiopfihjmkfdmaaGreatDoor
open Go.RowKit
set_option maxRecDepth 100000
set_option maxHeartbeats 400000
theorem measure_calls (s : ByteArray) (w : World) (hs : s.size ≤ 400) :
  Calls Tryz.prog 86 #[.string s] w fun e w' => e = .returned (.tuple #[.int .i64 (Sp.tokKind s.data.toList), .int .i64 (Sp.tokLen s.data.toList)]) ∧ w' = w := by
 cases hl : s.data.toList with
 | nil =>
  have hb : s.toList.isEmpty = true := by rw [ByteArray.toList_eq, hl]; rfl
  have HL : Hid (s.data.toList = []) := hl
  clear hl
  go_enter Tryz.func86, Tryz.ntmps86
  go_wp2_with fail
  go_ret2
  exact ⟨rfl, rfl⟩
 | cons c r =>
  have hb : s.toList.isEmpty = false := by rw [ByteArray.toList_eq, hl]; rfl
  have h0 : 0 < s.size := by
   have : s.data.toList.length = s.size := by simp
   rw [hl] at this; simp at this; omega
  have e1 : Sp.headRun Sp.isLet s.data.toList = if Sp.isLet c then Sp.headRun Sp.isLet r + 1 else 0 := by rw [hl, Sp.headRun_cons]
  have e2 : Sp.headRun Sp.isDig s.data.toList = if Sp.isDig c then Sp.headRun Sp.isDig r + 1 else 0 := by rw [hl, Sp.headRun_cons]
  by_cases hc : Sp.isLet c = true
  ·have hk : Hid (Sp.tokKind (c :: r) = 2) := by unfold Hid; rw [Sp.tokKind_cons, if_pos hc]
   have hn : Hid (Sp.tokLen (c :: r) = Sp.headRun Sp.isLet s.data.toList) := by unfold Hid; rw [Sp.tokLen_cons, if_pos hc, hl]
   have hp : (0 : Int) < (Sp.headRun Sp.isLet s.data.toList : Nat) := by rw [e1, if_pos hc]; omega
   clear e1 e2 hl hc
   go_enter Tryz.func86, Tryz.ntmps86
   go_wp2_with fail
   refine (run_calls_letters s _ hs).mono ?_
   rintro e w' ⟨rfl, rfl⟩
   go_wp2_with fail
   go_ret2
   exact ⟨by rw [hk.out, hn.out]; rfl, rfl⟩
  ·have hp : ((Sp.headRun Sp.isLet s.data.toList : Nat) : Int) = 0 := by rw [e1, if_neg hc]; rfl
   have Hp : Hid (((Sp.headRun Sp.isLet s.data.toList : Nat) : Int) = 0) := hp
   by_cases hd : Sp.isDig c = true
   ·have hk : Hid (Sp.tokKind (c :: r) = 3) := by unfold Hid; rw [Sp.tokKind_cons, if_neg hc, if_pos hd]
    have hn : Hid (Sp.tokLen (c :: r) = Sp.headRun Sp.isDig s.data.toList) := by unfold Hid; rw [Sp.tokLen_cons, if_neg hc, if_pos hd, hl]
    have hp2 : (0 : Int) < (Sp.headRun Sp.isDig s.data.toList : Nat) := by rw [e2, if_pos hd]; omega
    clear e1 e2 hl hc hd hp
    go_enter Tryz.func86, Tryz.ntmps86
    go_wp2_with fail
    refine (run_calls_letters s _ hs).mono ?_
    rintro e w' ⟨rfl, rfl⟩
    rw [Hp.out]
    go_wp2_with fail
    refine (run_calls_digits s _ hs).mono ?_
    rintro e w' ⟨rfl, rfl⟩
    go_wp2_with fail
    go_ret2
    exact ⟨by rw [hk.out, hn.out]; rfl, rfl⟩
   ·have hp2 : ((Sp.headRun Sp.isDig s.data.toList : Nat) : Int) = 0 := by rw [e2, if_neg hd]; rfl
    have Hp2 : Hid (((Sp.headRun Sp.isDig s.data.toList : Nat) : Int) = 0) := hp2
    have hn : Hid (Sp.tokLen (c :: r) = Sp.signLen s.data.toList) := by unfold Hid; rw [Sp.tokLen_cons, if_neg hc, if_neg hd, hl]
    by_cases hsg : 0 < Sp.signLen s.data.toList
    ·have hk : Hid (Sp.tokKind (c :: r) = 4) := by unfold Hid; rw [Sp.tokKind_cons, if_neg hc, if_neg hd, if_pos (by rw [← hl]; exact hsg)]
     have hp3 : (0 : Int) < (Sp.signLen s.data.toList : Nat) := by omega
     clear e1 e2 hl hc hd hp hp2 hsg
     go_enter Tryz.func86, Tryz.ntmps86
     go_wp2_with fail
     refine (run_calls_letters s _ hs).mono ?_
     rintro e w' ⟨rfl, rfl⟩
     rw [Hp.out]
     go_wp2_with fail
     refine (run_calls_digits s _ hs).mono ?_
     rintro e w' ⟨rfl, rfl⟩
     rw [Hp2.out]
     go_wp2_with fail
     refine (signSize_calls s _ h0 hs).mono ?_
     rintro e w' ⟨rfl, rfl⟩
     go_wp2_with fail
     go_ret2
     exact ⟨by rw [hk.out, hn.out]; rfl, rfl⟩
    ·have hk : Hid (Sp.tokKind (c :: r) = 0) := by unfold Hid; rw [Sp.tokKind_cons, if_neg hc, if_neg hd, if_neg (by rw [← hl]; exact hsg)]
     have Hp3 : Hid (((Sp.signLen s.data.toList : Nat) : Int) = 0) := by unfold Hid; omega
     clear e1 e2 hl hc hd hp hp2 hsg
     go_enter Tryz.func86, Tryz.ntmps86
     go_wp2_with fail
     refine (run_calls_letters s _ hs).mono ?_
     rintro e w' ⟨rfl, rfl⟩
     rw [Hp.out]
     go_wp2_with fail
     refine (run_calls_digits s _ hs).mono ?_
     rintro e w' ⟨rfl, rfl⟩
     rw [Hp2.out]
     go_wp2_with fail
     refine (signSize_calls s _ h0 hs).mono ?_
     rintro e w' ⟨rfl, rfl⟩
     rw [Hp3.out]
     go_wp2_with fail
     go_ret2
     exact ⟨by rw [hk.out, hn.out, Hp3.out]; rfl, rfl⟩
theorem blank_iff (c : UInt8) : Sp.isBlank c = true ↔ ((c.toNat : Int) = 32 ∨ (c.toNat : Int) = 10) := by
 unfold Sp.isBlank
 rw [Bool.or_eq_true, beq_iff_eq, beq_iff_eq, ← UInt8.toNat_inj, ← UInt8.toNat_inj]
 show c.toNat = 32 ∨ c.toNat = 10 ↔ _
 omega
def Blanks (l : Sp.Bs) (a k : Nat) : Prop := Sp.skip (l.drop a) = Sp.skip (l.drop k)
theorem Blanks.succ {s : ByteArray} {a k : Nat} (h : Blanks s.data.toList a k) (hk : k < s.size) (hb : Sp.isBlank s[k] = true) : Blanks s.data.toList a (k + 1) := by
 unfold Blanks at *
 rw [h]
 have : s.data.toList.drop k = s[k] :: s.data.toList.drop (k + 1) := by
  rw [List.drop_eq_getElem_cons (by simpa using hk)]; rfl
 rw [this]
 unfold Sp.skip
 rw [List.dropWhile_cons, if_pos hb]
theorem Blanks.stop {s : ByteArray} {a k : Nat} (h : Blanks s.data.toList a k) (hb : ∀ hk : k < s.size, Sp.isBlank s[k] = false) : Sp.skip (s.data.toList.drop a) = s.data.toList.drop k := by
 rw [h]
 by_cases hk : k < s.size
 ·have : s.data.toList.drop k = s[k] :: s.data.toList.drop (k + 1) := by
   rw [List.drop_eq_getElem_cons (by simpa using hk)]; rfl
  rw [this]
  unfold Sp.skip
  rw [List.dropWhile_cons, if_neg (by rw [hb hk]; simp)]
 ·rw [List.drop_of_length_le (by simpa using hk)]; rfl
def tokVal (s : ByteArray) (l : Sp.Bs) : Array Value := #[.int .i64 ((s.size - l.length : Nat) : Int), .int .i64 (Sp.tokKind l), .string ⟨(Sp.tok l).toArray⟩]
theorem bytes_ext {a b : ByteArray} (h : a.data.toList = b.data.toList) : a = b := by
 cases a; cases b; simp at h; simp [h]
theorem tokVal_of (s : ByteArray) (k : Nat) (hk : k ≤ s.size) : tokVal s (s.data.toList.drop k) = #[.int .i64 k, .int .i64 (Sp.tokKind (s.data.toList.drop k)), .string (s.extract k (k + Sp.tokLen (s.data.toList.drop k)))] := by
 unfold tokVal
 have h1 : s.size - (s.data.toList.drop k).length = k := by
  rw [List.length_drop]; have : s.data.toList.length = s.size := by simp
  omega
 have h2 : (⟨(Sp.tok (s.data.toList.drop k)).toArray⟩ : ByteArray) = s.extract k (k + Sp.tokLen (s.data.toList.drop k)) := by
  apply bytes_ext
  rw [Lib.extract_data]
  simp [Sp.tok]
 rw [h1, h2]
theorem extract_rest (s : ByteArray) (k : Nat) : (s.extract k s.size).data.toList = s.data.toList.drop k := by
 rw [Lib.extract_data]
 apply List.take_of_length_le
 simp
theorem tokLen_room (s : ByteArray) (k : Nat) (hk : k ≤ s.size) : k + Sp.tokLen (s.data.toList.drop k) ≤ s.size := by
 have := Sp.tokLen_le (s.data.toList.drop k)
 rw [List.length_drop] at this
 have h : s.data.toList.length = s.size := by simp
 omega
theorem scan_calls (s : ByteArray) (a : Nat) (w : World) (ha : a ≤ s.size) (hs : s.size ≤ 400) :
  Calls Tryz.prog 55 #[.string s, .int .i64 a] w fun e w' => e = .returned (.agg (tokVal s (Sp.skip (s.data.toList.drop a)))) ∧ Below w.heap.size w w' := by
 go_enter Tryz.func55, Tryz.ntmps55
 go_wp2
 go_loop [1] (fun n => ∃ k : Nat, k ≤ s.size ∧ Hid (Blanks s.data.toList a k) ∧ n = .int .i64 k) (fun i => s.size - (intOf i).toNat)
 case atStart => exact ⟨a, ha, rfl, rfl⟩
 case round =>
  obtain ⟨k, hk, hm, rfl⟩ := hrel
  have hx : Hid ((s.extract k s.size).data.toList = s.data.toList.drop k) := extract_rest s k
  have hv : Hid (tokVal s (s.data.toList.drop k) = #[.int .i64 k, .int .i64 (Sp.tokKind (s.data.toList.drop k)), .string (s.extract k (k + Sp.tokLen (s.data.toList.drop k)))]) := tokVal_of s k hk
  have hroom := tokLen_room s k hk
  have hsz : (s.extract k s.size).size ≤ 400 := by simp; omega
  have HSZ : Hid ((s.extract k s.size).size ≤ 400) := hsz
  clear hsz
  by_cases hlt : k < s.size
  ·by_cases h32 : ((s[k].toNat : Int) = 32)
   ·have hm1 : Hid (Blanks s.data.toList a (k + 1)) := hm.out.succ hlt ((blank_iff _).2 (.inl h32))
    clear hroom
    go_wp2_with fail
    exact ⟨⟨k + 1, by omega, hm1, by go_num⟩, by simp [intOf]; omega⟩
   ·by_cases h10 : ((s[k].toNat : Int) = 10)
    ·have hm1 : Hid (Blanks s.data.toList a (k + 1)) := hm.out.succ hlt ((blank_iff _).2 (.inr h10))
     clear hroom
     go_wp2_with fail
     exact ⟨⟨k + 1, by omega, hm1, by go_num⟩, by simp [intOf]; omega⟩
    ·have hst : Hid (Sp.skip (s.data.toList.drop a) = s.data.toList.drop k) := hm.out.stop (fun _ => by
      cases hb : Sp.isBlank s[k]
      ·rfl
      ·exact absurd ((blank_iff _).1 hb) (fun h => h.elim h32 h10))
     have h32b : ((s[k].toNat : Int) == 32) = false := by simpa using h32
     have h10b : ((s[k].toNat : Int) == 10) = false := by simpa using h10
     have hfin : Hid (tokVal s (Sp.skip (s.data.toList.drop a)) = #[.int .i64 k, .int .i64 (Sp.tokKind (s.data.toList.drop k)), .string (s.extract k (k + Sp.tokLen (s.data.toList.drop k)))]) := by unfold Hid; rw [hst.out, hv.out]
     clear hst hv hm
     go_wp2_with fail
     refine (measure_calls _ _ HSZ.out).mono ?_
     rintro e w' ⟨rfl, rfl⟩
     rw [hx.out]
     generalize Sp.tokLen (s.data.toList.drop k) = m at *
     generalize Sp.tokKind (s.data.toList.drop k) = kd at *
     go_wp2_with fail
     refine bodyPost_ret (v := .agg #[.int .i64 k, .int .i64 kd, .string (s.extract k (k + m))]) (by simp [results, Tryz.results55, go_sem]) rfl ⟨by rw [hfin.out], ?_⟩
     exact (Below.refl _ _).alloc (Nat.le_refl _) _
  ·have hst : Hid (Sp.skip (s.data.toList.drop a) = s.data.toList.drop k) := hm.out.stop (fun h => absurd h hlt)
   have hfin : Hid (tokVal s (Sp.skip (s.data.toList.drop a)) = #[.int .i64 k, .int .i64 (Sp.tokKind (s.data.toList.drop k)), .string (s.extract k (k + Sp.tokLen (s.data.toList.drop k)))]) := by unfold Hid; rw [hst.out, hv.out]
   clear hst hv hm
   go_wp2_with fail
   refine (measure_calls _ _ HSZ.out).mono ?_
   rintro e w' ⟨rfl, rfl⟩
   rw [hx.out]
   generalize Sp.tokLen (s.data.toList.drop k) = m at *
   generalize Sp.tokKind (s.data.toList.drop k) = kd at *
   go_wp2_with fail
   refine bodyPost_ret (v := .agg #[.int .i64 k, .int .i64 kd, .string (s.extract k (k + m))]) (by simp [results, Tryz.results55, go_sem]) rfl ⟨by rw [hfin.out], ?_⟩
   exact (Below.refl _ _).alloc (Nat.le_refl _) _
end Go.Proofs.YtiopfihjmkfdmaaGreatDoor
namespace Go.Proofs.YtiopfihjmkfdmaaGreatDoor
open Go.RowKit
set_option maxRecDepth 100000
set_option maxHeartbeats 400000
def rdCells (s : ByteArray) (m1 m2 : Nat) (l : Sp.Bs) (o : Nat) (ct : Int × Int) (nv : Value) : Array Value :=
 #[.string s, .int .i64 ((s.size - l.length : Nat) : Int), .int .i64 (Sp.tokKind l), .string ⟨(Sp.tok l).toArray⟩, .int .i64 o, .int .i64 ct.1, .int .i64 ct.2, nv, .map (some m1), .map (some m2)]
namespace Sp
def numsAt (l : Bs) : List Nat := if tokKind l = 3 then [decimal (tok l)] else []
inductive Nums (a : Bs) : Bs → List Nat → Prop
 | nil : Nums a a []
 | step {l : Bs} {ns : List Nat} : Nums a l ns → Nums a (next l) (ns ++ numsAt l)
theorem Nums.len {a l : Bs} {ns : List Nat} (h : Nums a l ns) : ns.length + l.length ≤ a.length := by
 induction h with
 | nil => simp
 | @step l ns h ih =>
  unfold numsAt
  by_cases h3 : tokKind l = 3
  ·have := next_lt (tokLen_pos (.inr (.inl h3)))
   rw [if_pos h3, List.length_append, List.length_singleton]; omega
  ·have := next_le l
   rw [if_neg h3, List.append_nil]; omega
theorem Nums.step_none {a l : Bs} {ns : List Nat} (h : Nums a l ns) (h3 : tokKind l ≠ 3) : Nums a (next l) ns := by
 have := h.step
 rwa [numsAt, if_neg h3, List.append_nil] at this
theorem kind_of_tok {l t : Bs} (h : tok l = t) (hd : t.head?.any isDig = false) : tokKind l ≠ 3 := by
 intro h3
 cases l with
 | nil => simp [tokKind] at h3
 | cons c r =>
  rw [tokKind_cons] at h3
  by_cases h1 : isLet c = true
  ·rw [if_pos h1] at h3; omega
  ·by_cases h2 : isDig c = true
   ·rw [if_neg h1, if_pos h2] at h3
    have : tok (c :: r) = c :: r.take (headRun isDig r) := by
     unfold tok
     rw [tokLen_cons, if_neg h1, if_pos h2, headRun_cons, if_pos h2, List.take_succ_cons]
    rw [← h, this] at hd
    simp [h2] at hd
   ·rw [if_neg h1, if_neg h2] at h3
    split at h3 <;> omega
end Sp
def numVals (ns : List Nat) : List Value := ns.map fun n => .int .i16 ((n : Nat) : Int)
structure RdN (b : Nat) (s : ByteArray) (m1 m2 : Nat) (l : Sp.Bs) (o : Nat) (ct : Int × Int) (nv : Value) (ns : List Nat) (w : World) : Prop where
 blk : w.heap[b]? = some (.cells (rdCells s m1 m2 l o ct nv) 147)
 suf : l <:+ s.data.toList
 sz : s.size ≤ 400
 row : w.ownsRow (b + 1) 226 1 nv ns.length (numVals ns)
def Rd (b : Nat) (s : ByteArray) (m1 m2 : Nat) (l : Sp.Bs) (o : Nat) (ct : Int × Int) (w : World) : Prop :=
 ∃ nv ns, RdN b s m1 m2 l o ct nv ns w ∧ Sp.Nums (Sp.skip s.data.toList) l ns
section
variable {b : Nat} {s : ByteArray} {m1 m2 : Nat} {l : Sp.Bs} {o : Nat} {ct : Int × Int} {nv : Value} {ns : List Nat} {w : World}
theorem RdN.len (h : RdN b s m1 m2 l o ct nv ns w) : l.length ≤ s.size := by
 have := h.suf.length_le
 simpa using this
theorem RdN.lt (h : RdN b s m1 m2 l o ct nv ns w) : b < w.heap.size := heap_lt h.blk
theorem RdN.fz (h : RdN b s m1 m2 l o ct nv ns w) (i : Nat) : w.frozen? ⟨b, i, none⟩ = false := frozen_of h.blk i
theorem Rd.suf (h : Rd b s m1 m2 l o ct w) : l <:+ s.data.toList := by obtain ⟨_, _, h, _⟩ := h; exact h.suf
theorem Rd.sz (h : Rd b s m1 m2 l o ct w) : s.size ≤ 400 := by obtain ⟨_, _, h, _⟩ := h; exact h.sz
theorem Rd.len (h : Rd b s m1 m2 l o ct w) : l.length ≤ s.size := by obtain ⟨_, _, h, _⟩ := h; exact h.len
theorem Rd.lt (h : Rd b s m1 m2 l o ct w) : b < w.heap.size := by obtain ⟨_, _, h, _⟩ := h; exact h.lt
theorem Rd.c0 (h : Rd b s m1 m2 l o ct w) : w.cell? ⟨b, 0, none⟩ = some (.string s) := by obtain ⟨_, _, h, _⟩ := h; exact cell_of h.blk 0 rfl
theorem Rd.c1 (h : Rd b s m1 m2 l o ct w) : w.cell? ⟨b, 1, none⟩ = some (.int .i64 ((s.size - l.length : Nat) : Int)) := by obtain ⟨_, _, h, _⟩ := h; exact cell_of h.blk 1 rfl
theorem Rd.c2 (h : Rd b s m1 m2 l o ct w) : w.cell? ⟨b, 2, none⟩ = some (.int .i64 (Sp.tokKind l)) := by obtain ⟨_, _, h, _⟩ := h; exact cell_of h.blk 2 rfl
theorem Rd.c3 (h : Rd b s m1 m2 l o ct w) : w.cell? ⟨b, 3, none⟩ = some (.string ⟨(Sp.tok l).toArray⟩) := by obtain ⟨_, _, h, _⟩ := h; exact cell_of h.blk 3 rfl
theorem Rd.c4 (h : Rd b s m1 m2 l o ct w) : w.cell? ⟨b, 4, none⟩ = some (.int .i64 o) := by obtain ⟨_, _, h, _⟩ := h; exact cell_of h.blk 4 rfl
theorem Rd.c5 (h : Rd b s m1 m2 l o ct w) : w.cell? ⟨b, 5, none⟩ = some (.int .i64 ct.1) := by obtain ⟨_, _, h, _⟩ := h; exact cell_of h.blk 5 rfl
theorem Rd.c6 (h : Rd b s m1 m2 l o ct w) : w.cell? ⟨b, 6, none⟩ = some (.int .i64 ct.2) := by obtain ⟨_, _, h, _⟩ := h; exact cell_of h.blk 6 rfl
theorem Rd.c7 (h : Rd b s m1 m2 l o ct w) : w.cell? ⟨b, 8, none⟩ = some (.map (some m1)) := by obtain ⟨_, _, h, _⟩ := h; exact cell_of h.blk 8 rfl
theorem Rd.c8 (h : Rd b s m1 m2 l o ct w) : w.cell? ⟨b, 9, none⟩ = some (.map (some m2)) := by obtain ⟨_, _, h, _⟩ := h; exact cell_of h.blk 9 rfl
theorem Rd.fz (h : Rd b s m1 m2 l o ct w) (i : Nat) : w.frozen? ⟨b, i, none⟩ = false := by obtain ⟨_, _, h, _⟩ := h; exact h.fz i
theorem row_keep {w' : World} {n : Nat} {vs : List Value} (h : w.ownsRow (b + 1) 226 1 nv n vs) (hn : ∀ k, b < k → k < w.heap.size → NumB w.heap[k]? → w'.heap[k]? = w.heap[k]?) : w'.ownsRow (b + 1) 226 1 nv n vs := by
 obtain ⟨h1, h2⟩ := h
 refine ⟨h1, ?_⟩
 rcases h2 with h2 | ⟨g, cap, cur, e, hb, hh, r⟩
 ·exact .inl h2
 ·exact .inr ⟨g, cap, cur, e, hb, by rw [hn g (by omega) (heap_lt hh) (by rw [hh]; exact ⟨_, _, rfl⟩)]; exact hh, r⟩
theorem RdN.keep {w' : World} (h : RdN b s m1 m2 l o ct nv ns w) (hb : w'.heap[b]? = w.heap[b]?) (hn : ∀ k, b < k → k < w.heap.size → NumB w.heap[k]? → w'.heap[k]? = w.heap[k]?) : RdN b s m1 m2 l o ct nv ns w' :=
 ⟨by rw [hb]; exact h.blk, h.suf, h.sz, row_keep h.row hn⟩
theorem Rd.keep {w' : World} (h : Rd b s m1 m2 l o ct w) (hb : w'.heap[b]? = w.heap[b]?) (hn : ∀ k, b < k → k < w.heap.size → NumB w.heap[k]? → w'.heap[k]? = w.heap[k]?) : Rd b s m1 m2 l o ct w' := by
 obtain ⟨nv, ns, h, hl⟩ := h
 exact ⟨nv, ns, h.keep hb hn, hl⟩
theorem RdN.own (h : RdN b s m1 m2 l o ct nv ns w) (i : Nat) (v : Value) {l' : Sp.Bs} {o' : Nat} {ct' : Int × Int} (hs : l' <:+ s.data.toList) (e : (rdCells s m1 m2 l o ct nv).setIfInBounds i v = rdCells s m1 m2 l' o' ct' nv) : RdN b s m1 m2 l' o' ct' nv ns (w.setCell ⟨b, i, none⟩ v) :=
 ⟨by rw [heap_setCell_at h.blk i v, e], hs, h.sz, row_keep h.row (fun k hk _ _ => Below.heap_setCell _ _ _ _ (by show k ≠ b; omega))⟩
end
def Faulty (s : ByteArray) (b : Nat) (w : World) (er : Nat × Nat) (e : Ending) (w' : World) : Prop :=
 ∃ N, e = .panicked [{ v := .iface 90 (.pointer (some ⟨N, 0, none⟩)), recovered := false }] ∧ w'.heap[N]? = some (.cells #[.int .i64 ((s.size - er.2 : Nat) : Int), .int .i64 er.1] 96) ∧ Ext b w w' ∧ N ≠ b ∧ w.heap.size ≤ N
theorem Faulty.ahead {s : ByteArray} {b : Nat} {w w1 : World} {er : Nat × Nat} {e : Ending} {w' : World} (h : Ext b w w1) (k : Faulty s b w1 er e w') : Faulty s b w er e w' := by
 obtain ⟨N, h1, h2, h3, h4, h5⟩ := k
 exact ⟨N, h1, h2, h.trans h3, h4, Nat.le_trans h.size h5⟩
theorem fault_calls {b : Nat} {s : ByteArray} {m1 m2 : Nat} {l : Sp.Bs} {o : Nat} {ct : Int × Int} {w : World} (h : Rd b s m1 m2 l o ct w) (er : Int) :
  Calls Tryz.prog 90 #[.pointer (some ⟨b, 0, none⟩), .int .i64 er] w fun e w' =>
   e = .returned (.pointer (some ⟨w.heap.size, 0, none⟩)) ∧ w' = w.alloc (.cells #[.int .i64 ((s.size - l.length : Nat) : Int), .int .i64 er] 96) := by
 have h1 := h.c1
 go_enter Tryz.func90, Tryz.ntmps90
 go_wp2
 go_ret
 exact ⟨rfl, rfl⟩
theorem faulty_of {b : Nat} {s : ByteArray} {m1 m2 : Nat} {l : Sp.Bs} {o : Nat} {ct : Int × Int} {w : World} (h : Rd b s m1 m2 l o ct w) (er : Nat) (ei : Int) (he : ei = er) :
  Faulty s b w (er, l.length) (.panicked [{ v := .iface 90 (.pointer (some ⟨w.heap.size, 0, none⟩)), recovered := false }]) (w.alloc (.cells #[.int .i64 ((s.size - l.length : Nat) : Int), .int .i64 ei] 96)) := by
 subst he
 refine ⟨w.heap.size, rfl, heap_alloc_new _ _, (Ext.refl b w).alloc _, ?_, Nat.le_refl _⟩
 have := h.lt
 omega
theorem tok_ne_beq {l t : Sp.Bs} (h : Sp.tok l ≠ t) : (Sp.tok l == t) = false := by simpa using h
theorem need_ok {b : Nat} {s : ByteArray} {m1 m2 : Nat} {l : Sp.Bs} {o : Nat} {ct : Int × Int} {w : World} (h : Rd b s m1 m2 l o ct w) (t : Sp.Bs) (ht : Sp.tok l = t) :
  Calls Tryz.prog 231 #[.pointer (some ⟨b, 0, none⟩), .string ⟨t.toArray⟩] w fun e w' => e = .returned (.tuple #[]) ∧ w' = w := by
 have h3 := h.c3
 subst ht
 go_enter Tryz.func231, Tryz.ntmps231
 go_wp2_with fail
 go_end0
 exact ⟨rfl, rfl⟩
theorem need_bad {b : Nat} {s : ByteArray} {m1 m2 : Nat} {l : Sp.Bs} {o : Nat} {ct : Int × Int} {w : World} (h : Rd b s m1 m2 l o ct w) (t : Sp.Bs) (ht : Sp.tok l ≠ t) :
  Calls Tryz.prog 231 #[.pointer (some ⟨b, 0, none⟩), .string ⟨t.toArray⟩] w fun e w' => Faulty s b w (2, l.length) e w' := by
 have h3 := h.c3
 have hb := tok_ne_beq ht
 go_enter Tryz.func231, Tryz.ntmps231
 go_wp2_with fail
 refine (fault_calls h 2).mono ?_
 rintro e w' ⟨rfl, rfl⟩
 go_wp2_with fail
 exact ⟨rfl, faulty_of h 2 2 rfl⟩
theorem RdN.drop_eq {b : Nat} {s : ByteArray} {m1 m2 : Nat} {l : Sp.Bs} {o : Nat} {ct : Int × Int} {nv : Value} {ns : List Nat} {w : World} (h : RdN b s m1 m2 l o ct nv ns w) : s.data.toList.drop (s.size - l.length + Sp.tokLen l) = l.drop (Sp.tokLen l) := by
 obtain ⟨p, hp⟩ := h.suf
 have hs : s.size = p.length + l.length := by
  have : s.data.toList.length = s.size := by simp
  rw [← this, ← hp, List.length_append]
 rw [← hp, hs]
 rw [List.drop_append]
 rw [List.drop_of_length_le (by omega), List.nil_append]
 congr 1
 omega
theorem rd_at {b : Nat} {s : ByteArray} {m1 m2 : Nat} {l : Sp.Bs} {o : Nat} {ct : Int × Int} {w w1 : World} (h : Rd b s m1 m2 l o ct w) (hb : Below w.heap.size w w1) : Rd b s m1 m2 l o ct w1 :=
 h.keep (hb.block b h.lt) (fun k _ hk _ => hb.block k hk)
theorem rdn_at {b : Nat} {s : ByteArray} {m1 m2 : Nat} {l : Sp.Bs} {o : Nat} {ct : Int × Int} {nv : Value} {ns : List Nat} {w w1 : World} (h : RdN b s m1 m2 l o ct nv ns w) (hb : Below w.heap.size w w1) : RdN b s m1 m2 l o ct nv ns w1 :=
 h.keep (hb.block b h.lt) (fun k _ hk _ => hb.block k hk)
theorem rd_stored {b : Nat} {s : ByteArray} {m1 m2 : Nat} {l : Sp.Bs} {o : Nat} {ct : Int × Int} {nv : Value} {ns : List Nat} {w w1 : World} (h : RdN b s m1 m2 l o ct nv ns w) (hb : Below w.heap.size w w1) (l' : Sp.Bs) (hl' : l' <:+ s.data.toList) :
  RdN b s m1 m2 l' o ct nv ns (((w1.setCell ⟨b, 1, none⟩ (.int .i64 ((s.size - l'.length : Nat) : Int))).setCell ⟨b, 2, none⟩ (.int .i64 (Sp.tokKind l'))).setCell ⟨b, 3, none⟩ (.string ⟨(Sp.tok l').toArray⟩)) ∧
  Ext b w (((w1.setCell ⟨b, 1, none⟩ (.int .i64 ((s.size - l'.length : Nat) : Int))).setCell ⟨b, 2, none⟩ (.int .i64 (Sp.tokKind l'))).setCell ⟨b, 3, none⟩ (.string ⟨(Sp.tok l').toArray⟩)) := by
 have h1 := rdn_at h hb
 have x0 : Ext b w w1 := Ext.of_below hb
 have x1 : Ext b w (w1.setCell ⟨b, 1, none⟩ (.int .i64 ((s.size - l'.length : Nat) : Int))) := x0.setCell (p := ⟨b, 1, none⟩) (.inl rfl) _
 have x2 := x1.setCell (p := ⟨b, 2, none⟩) (.inl rfl) (.int .i64 (Sp.tokKind l'))
 have x3 := x2.setCell (p := ⟨b, 3, none⟩) (.inl rfl) (.string ⟨(Sp.tok l').toArray⟩)
 refine ⟨⟨?_, hl', h.sz, ?_⟩, x3⟩
 ·have e := heap_setCell_at (heap_setCell_at (heap_setCell_at h1.blk 1 (.int .i64 ((s.size - l'.length : Nat) : Int))) 2 (.int .i64 (Sp.tokKind l'))) 3 (.string ⟨(Sp.tok l').toArray⟩)
  rw [e]
  rfl
 ·refine row_keep h1.row (fun k hk _ _ => ?_)
  rw [Below.heap_setCell _ _ _ _ (by show k ≠ b; omega), Below.heap_setCell _ _ _ _ (by show k ≠ b; omega), Below.heap_setCell _ _ _ _ (by show k ≠ b; omega)]
theorem below_undrew {w w1 : World} (h : Below w.drew.heap.size w.drew w1) : Below w.heap.size w w1 := ⟨h.os, h.tape, h.output, h.size, h.block⟩
theorem rd_facts {b : Nat} {s : ByteArray} {m1 m2 : Nat} {l : Sp.Bs} {o : Nat} {ct : Int × Int} {nv : Value} {ns : List Nat} {w w1 : World} (h : RdN b s m1 m2 l o ct nv ns w) (hb : Below w.drew.heap.size w.drew w1) :
  w1.cell? ⟨b, 1, none⟩ = some (.int .i64 ((s.size - l.length : Nat) : Int)) ∧ w1.cell? ⟨b, 2, none⟩ = some (.int .i64 (Sp.tokKind l)) ∧ w1.cell? ⟨b, 3, none⟩ = some (.string ⟨(Sp.tok l).toArray⟩) ∧ w1.frozen? ⟨b, 1, none⟩ = false ∧ w1.frozen? ⟨b, 2, none⟩ = false ∧ w1.frozen? ⟨b, 3, none⟩ = false := by
 have h1 := rdn_at h (below_undrew hb)
 exact ⟨cell_of h1.blk 1 rfl, cell_of h1.blk 2 rfl, cell_of h1.blk 3 rfl, h1.fz 1, h1.fz 2, h1.fz 3⟩
theorem tokVal_eq (s : ByteArray) (l : Sp.Bs) : Value.agg (tokVal s l) = .agg #[.int .i64 ((s.size - l.length : Nat) : Int), .int .i64 (Sp.tokKind l), .string ⟨(Sp.tok l).toArray⟩] := rfl
end Go.Proofs.YtiopfihjmkfdmaaGreatDoor
namespace Go.Proofs.YtiopfihjmkfdmaaGreatDoor
open Go.RowKit
set_option maxRecDepth 100000
set_option maxHeartbeats 4000000 in
theorem stepN_calls {b : Nat} {s : ByteArray} {m1 m2 : Nat} {l : Sp.Bs} {o : Nat} {ct : Int × Int} {nv : Value} {ns : List Nat} {w : World} (h : RdN b s m1 m2 l o ct nv ns w) :
  Calls Tryz.prog 232 #[.pointer (some ⟨b, 0, none⟩)] w fun e w' => e = .returned (.tuple #[]) ∧ RdN b s m1 m2 (Sp.next l) o ct nv ns w' ∧ Ext b w w' := by
 have h0 : w.cell? ⟨b, 0, none⟩ = some (.string s) := cell_of h.blk 0 rfl
 have h1 : w.cell? ⟨b, 1, none⟩ = some (.int .i64 ((s.size - l.length : Nat) : Int)) := cell_of h.blk 1 rfl
 have h3 : w.cell? ⟨b, 3, none⟩ = some (.string ⟨(Sp.tok l).toArray⟩) := cell_of h.blk 3 rfl
 have hlen := h.len
 have hsz := h.sz
 have htl := Sp.tok_length l
 have hle := Sp.tokLen_le l
 have ha : s.size - l.length + Sp.tokLen l ≤ s.size := by omega
 have hwr : Hid (IntKind.i64.wrap (((s.size - l.length : Nat) : Int) + ((Sp.tokLen l : Nat) : Int)) = ((s.size - l.length + Sp.tokLen l : Nat) : Int)) := by
  unfold Hid
  rw [IntWalk.i64_in _ (by omega)]
  omega
 have hd : Hid (Sp.skip (s.data.toList.drop (s.size - l.length + Sp.tokLen l)) = Sp.next l) := by
  unfold Hid; rw [h.drop_eq]; rfl
 have hsuf : Sp.next l <:+ s.data.toList := (Sp.next_suffix l).trans h.suf
 go_enter Tryz.func232, Tryz.ntmps232
 go_region_with (go_at_call 55; go_must (rw [hwr.out]); go_must (refine (scan_calls s _ _ ha hsz).mono ?_); go_must (rintro e w1 ⟨rfl, hb⟩); go_must (rw [hd.out, tokVal_eq]); obtain ⟨k1, k2, k3, f1, f2, f3⟩ := rd_facts h hb)
 all_goals
  go_end0
  exact ⟨rfl, rd_stored h (below_undrew hb) _ hsuf⟩
theorem step_calls {b : Nat} {s : ByteArray} {m1 m2 : Nat} {l : Sp.Bs} {o : Nat} {ct : Int × Int} {w : World} (h : Rd b s m1 m2 l o ct w) (h3 : Sp.tokKind l ≠ 3) :
  Calls Tryz.prog 232 #[.pointer (some ⟨b, 0, none⟩)] w fun e w' => e = .returned (.tuple #[]) ∧ Rd b s m1 m2 (Sp.next l) o ct w' ∧ Ext b w w' := by
 obtain ⟨nv, ns, h, hl⟩ := h
 refine (stepN_calls h).mono ?_
 rintro e w' ⟨rfl, h1, x1⟩
 exact ⟨rfl, ⟨nv, ns, h1, hl.step_none h3⟩, x1⟩
end Go.Proofs.YtiopfihjmkfdmaaGreatDoor
