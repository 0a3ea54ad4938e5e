/- WORLDS: 'Ext b w w'': all that lay in w but block b lies in w' as it was. Small laws on strings. -/
import Derived.Test.YtiopfihjmkfdmaaGreatDoorRows
import Derived.Test.YtiopfihjmkfdmaaGreatDoorGSpec
import Derived.WalkKit
import Derived.WalkSpells
import Derived.WalkLawsBesides
namespace Go.Proofs.YtiopfihjmkfdmaaGreatDoor
open Go.RowKit

theorem ret_bool {a b : Bool} (h : a = b) : Ending.returned (.bool a) = .returned (.bool b) := by rw [h]
theorem ret_int {k : IntKind} {a b : Int} (h : a = b) : Ending.returned (.int k a) = .returned (.int k b) := by rw [h]
theorem ret_str {a b : ByteArray} (h : a = b) : Ending.returned (.string a) = .returned (.string b) := by rw [h]

/-- a row of the text's numbers -/
def NumB (o : Option Obj) : Prop := ∃ c f, o = some (.cells c 226 f)

theorem not_num {c : Array Value} {t : TypeId} {f : Nat × Nat} (h : t ≠ 226) : ¬ NumB (some (.cells c t f)) := by
  rintro ⟨c', f', e⟩
  injection e with e
  injection e with _ e2 _
  exact h e2

theorem not_num_map {es : Array MapEntry} {c : Nat} : ¬ NumB (some (.map es c)) := by
  rintro ⟨c', f', e⟩
  injection e with e
  cases e

theorem nn_of {w : World} {k : Nat} {c : Array Value} {t : TypeId} {f : Nat × Nat} (h : w.heap[k]? = some (.cells c t f)) (ht : t ≠ 226) : ¬ NumB w.heap[k]? := by rw [h]; exact not_num ht

/-- all that lay in w but block b, and a row of numbers behind it, lies in w' as it was -/
structure Ext (b : Nat) (w w' : World) : Prop where
  os : w'.os = w.os
  tape : w'.tape = w.tape
  output : w'.output = w.output
  size : w.heap.size ≤ w'.heap.size
  block : ∀ k, k < w.heap.size → k ≠ b → (b < k → ¬ NumB w.heap[k]?) → w'.heap[k]? = w.heap[k]?

theorem Ext.refl (b : Nat) (w : World) : Ext b w w := ⟨rfl, rfl, rfl, Nat.le_refl _, fun _ _ _ _ => rfl⟩

theorem Ext.trans {b : Nat} {w1 w2 w3 : World} (h : Ext b w1 w2) (k : Ext b w2 w3) : Ext b w1 w3 :=
  ⟨k.os.trans h.os, k.tape.trans h.tape, k.output.trans h.output, Nat.le_trans h.size k.size, fun i hi hb hn => by
    have e := h.block i hi hb hn
    exact (k.block i (Nat.lt_of_lt_of_le hi h.size) hb (fun h' => by rw [e]; exact hn h')).trans e⟩

theorem Ext.drew {b : Nat} {w w' : World} (h : Ext b w w') : Ext b w w'.drew := ⟨h.os, h.tape, h.output, h.size, h.block⟩

theorem Ext.alloc {b : Nat} {w w' : World} (h : Ext b w w') (o : Obj) : Ext b w (w'.alloc o) :=
  ⟨h.os, h.tape, h.output, by have := h.size; simp; omega, fun k hk hb hn => by
    have := h.size
    rw [Below.heap_alloc _ _ _ (by omega)]; exact h.block k hk hb hn⟩

theorem Ext.setCell {b : Nat} {w w' : World} (h : Ext b w w') {p : Addr} (hp : p.block = b ∨ w.heap.size ≤ p.block) (u : Value) : Ext b w (w'.setCell p u) :=
  ⟨h.os, h.tape, h.output, by have := h.size; simp [World.setCell]; omega, fun k hk hb hn => by
    rw [Below.heap_setCell _ _ _ _ (by rcases hp with rfl | hp <;> omega)]; exact h.block k hk hb hn⟩

theorem Ext.of_below {b : Nat} {w w' : World} (h : Below w.heap.size w w') : Ext b w w' :=
  ⟨h.os, h.tape, h.output, h.size, fun k hk _ _ => h.block k hk⟩

theorem Ext.below {b B : Nat} {w w' : World} (h : Ext b w w') (hB : B ≤ b) (hw : B ≤ w.heap.size) : Below B w w' :=
  ⟨h.os, h.tape, h.output, h.size, fun k hk => h.block k (by omega) (by omega) (fun h' => by omega)⟩

theorem Ext.cell {b : Nat} {w w' : World} (h : Ext b w w') {p : Addr} (hp : p.block < w.heap.size) (hb : p.block ≠ b) (hn : b < p.block → ¬ NumB w.heap[p.block]?) : w'.cell? p = w.cell? p := World.cell?_of_block (w := w) (h.block p.block hp hb hn)

/-- the cells of a block that is told -/
theorem cell_of {w : World} {b : Nat} {c : Array Value} {t : TypeId} {f : Nat × Nat} (h : w.heap[b]? = some (.cells c t f)) (i : Nat) {v : Value} (hv : c[i]? = some v) : w.cell? ⟨b, i, none⟩ = some v := by
  simp [World.cell?, h, hv]

theorem frozen_of {w : World} {b : Nat} {c : Array Value} {t : TypeId} (h : w.heap[b]? = some (.cells c t (0, 0))) (i : Nat) : w.frozen? ⟨b, i, none⟩ = false := by
  simp [World.frozen?, h]

theorem heap_setCell_at {w : World} {b : Nat} {c : Array Value} {t : TypeId} {f : Nat × Nat} (h : w.heap[b]? = some (.cells c t f)) (i : Nat) (v : Value) : (w.setCell ⟨b, i, none⟩ v).heap[b]? = some (.cells (c.setIfInBounds i v) t f) := by
  simp [World.setCell, Array.getElem?_modify, h]

theorem heap_lt {w : World} {b : Nat} {o : Obj} (h : w.heap[b]? = some o) : b < w.heap.size := by
  have := Array.getElem?_eq_some_iff.1 h
  exact this.1

theorem num_set {w : World} {k : Nat} {p : Addr} {u : Value} (h : NumB (w.setCell p u).heap[k]?) : NumB w.heap[k]? := by
  by_cases e : k = p.block
  · obtain ⟨c, f, h⟩ := h
    rw [World.setCell] at h
    subst e
    simp only [Array.getElem?_modify, if_true] at h
    cases hh : w.heap[p.block]? with
    | none => rw [hh] at h; cases h
    | some o =>
      rw [hh] at h
      cases o with
      | cells c0 t0 f0 =>
        simp at h
        exact ⟨c0, f0, by rw [h.2.1]⟩
      | _ => simp at h
  · rwa [Below.heap_setCell _ _ _ _ e] at h
theorem nn_set {w : World} {k : Nat} {p : Addr} {u : Value} (h : ¬ NumB w.heap[k]?) : ¬ NumB (w.setCell p u).heap[k]? := fun h' => h (num_set h')

/-- a block that is told, and is no row of numbers -/
theorem Ext.keep {b k : Nat} {w w' : World} (h : Ext b w w') {o : Obj} (hk : w.heap[k]? = some o) (hb : k ≠ b) (hn : ¬ NumB (some o)) : w'.heap[k]? = some o := by
  rw [h.block k (heap_lt hk) hb (fun _ => by rw [hk]; exact hn)]; exact hk

theorem heap_alloc_old {w : World} {b : Nat} {o o' : Obj} (h : w.heap[b]? = some o) : (w.alloc o').heap[b]? = some o := by
  rw [Below.heap_alloc _ _ _ (heap_lt h)]; exact h

theorem heap_alloc_new (w : World) (o : Obj) : (w.alloc o).heap[w.heap.size]? = some o := by
  show (w.heap.push o)[w.heap.size]? = some o
  simp

namespace Sp

theorem signLen_cons (c : UInt8) (r : Bs) : signLen (c :: r) = if r.head? = some 61 ∧ c ∈ twos then 2 else if c ∈ ones then 1 else 0 := rfl
theorem tokLen_cons (c : UInt8) (r : Bs) : tokLen (c :: r) = if isLet c then headRun isLet (c :: r) else if isDig c then headRun isDig (c :: r) else signLen (c :: r) := rfl
theorem tokKind_cons (c : UInt8) (r : Bs) : tokKind (c :: r) = if isLet c then 2 else if isDig c then 3 else if 0 < signLen (c :: r) then 4 else 0 := rfl

theorem headRun_le (p : UInt8 → Bool) (l : Bs) : headRun p l ≤ l.length := by
  unfold headRun; exact (List.takeWhile_prefix p).length_le

theorem headRun_cons (p : UInt8 → Bool) (c : UInt8) (r : Bs) : headRun p (c :: r) = if p c then headRun p r + 1 else 0 := by
  unfold headRun; rw [List.takeWhile_cons]; split <;> simp

theorem signLen_le (l : Bs) : signLen l ≤ l.length := by
  cases l with
  | nil => simp [signLen]
  | cons c r =>
    rw [signLen_cons]
    split
    · rename_i h
      cases r with
      | nil => simp at h
      | cons d r => simp
    · split <;> simp

theorem tokLen_le (l : Bs) : tokLen l ≤ l.length := by
  cases l with
  | nil => simp [tokLen]
  | cons c r =>
    rw [tokLen_cons]
    split
    · exact headRun_le _ _
    · split
      · exact headRun_le _ _
      · exact signLen_le _

theorem skip_suffix (l : Bs) : skip l <:+ l := List.dropWhile_suffix _
theorem next_suffix (l : Bs) : next l <:+ l := (skip_suffix _).trans (List.drop_suffix _ _)
theorem skip_le (l : Bs) : (skip l).length ≤ l.length := (skip_suffix l).length_le
theorem next_le (l : Bs) : (next l).length ≤ l.length := (next_suffix l).length_le

theorem tokLen_pos {l : Bs} (h : tokKind l = 2 ∨ tokKind l = 3 ∨ tokKind l = 4) : 0 < tokLen l := by
  cases l with
  | nil => simp [tokKind] at h
  | cons c r =>
    rw [tokKind_cons] at h
    rw [tokLen_cons]
    by_cases hl : isLet c = true
    · simp [hl, headRun_cons]
    · by_cases hd : isDig c = true
      · simp [hl, hd, headRun_cons]
      · by_cases hs : 0 < signLen (c :: r)
        · simp [hl, hd, hs]
        · simp [hl, hd, hs] at h

theorem tok_length (l : Bs) : (tok l).length = tokLen l := by
  unfold tok; rw [List.length_take]; have := tokLen_le l; omega

theorem next_lt {l : Bs} (h : 0 < tokLen l) : (next l).length < l.length := by
  have h1 : (next l).length ≤ (l.drop (tokLen l)).length := skip_le _
  have h2 := tokLen_le l
  rw [List.length_drop] at h1
  omega

theorem next_lt_of_tok {l t : Bs} (h : tok l = t) (ht : t ≠ []) : (next l).length < l.length := by
  apply next_lt
  rw [← tok_length, h]
  exact List.length_pos_iff.2 ht

end Sp
end Go.Proofs.YtiopfihjmkfdmaaGreatDoor

/- THE TYPE SWITCHES' TESTS. -/
namespace Go.Proofs.YtiopfihjmkfdmaaGreatDoor
open Go.RowKit
set_option maxRecDepth 100000
set_option maxHeartbeats 400000

theorem ta_num_num (x : Value) (w : World) : (Instr.typeAssert (.iface 226 x) 277 226 true).run Tryz.prog w = .ok (.tuple #[x, .bool true]) w := by kernel_rfl
theorem ta_name_num (x : Value) (w : World) : (Instr.typeAssert (.iface 275 x) 277 226 true).run Tryz.prog w = .ok (.tuple #[.int .i16 0, .bool false]) w := by kernel_rfl
theorem ta_name_name (x : Value) (w : World) : (Instr.typeAssert (.iface 275 x) 277 275 true).run Tryz.prog w = .ok (.tuple #[x, .bool true]) w := by kernel_rfl
theorem ta_neg_num (x : Value) (w : World) : (Instr.typeAssert (.iface 330 x) 277 226 true).run Tryz.prog w = .ok (.tuple #[.int .i16 0, .bool false]) w := by kernel_rfl
theorem ta_neg_name (x : Value) (w : World) : (Instr.typeAssert (.iface 330 x) 277 275 true).run Tryz.prog w = .ok (.tuple #[.int .i64 0, .bool false]) w := by kernel_rfl
theorem ta_neg_neg (x : Value) (w : World) : (Instr.typeAssert (.iface 330 x) 277 330 true).run Tryz.prog w = .ok (.tuple #[x, .bool true]) w := by kernel_rfl
theorem ta_bin_num (x : Value) (w : World) : (Instr.typeAssert (.iface 334 x) 277 226 true).run Tryz.prog w = .ok (.tuple #[.int .i16 0, .bool false]) w := by kernel_rfl
theorem ta_bin_name (x : Value) (w : World) : (Instr.typeAssert (.iface 334 x) 277 275 true).run Tryz.prog w = .ok (.tuple #[.int .i64 0, .bool false]) w := by kernel_rfl
theorem ta_bin_neg (x : Value) (w : World) : (Instr.typeAssert (.iface 334 x) 277 330 true).run Tryz.prog w = .ok (.tuple #[.agg #[.nilIface], .bool false]) w := by kernel_rfl
theorem ta_bin_bin (x : Value) (w : World) : (Instr.typeAssert (.iface 334 x) 277 334 true).run Tryz.prog w = .ok (.tuple #[x, .bool true]) w := by kernel_rfl
theorem ts_1_1 (x : Value) (w : World) : (Instr.typeAssert (.iface 279 x) 234 279 true).run Tryz.prog w = .ok (.tuple #[x, .bool true]) w := by kernel_rfl
theorem ts_2_1 (x : Value) (w : World) : (Instr.typeAssert (.iface 283 x) 234 279 true).run Tryz.prog w = .ok (.tuple #[.agg #[.int .i64 0, .int .i64 0, .nilIface], .bool false]) w := by kernel_rfl
theorem ts_2_2 (x : Value) (w : World) : (Instr.typeAssert (.iface 283 x) 234 283 true).run Tryz.prog w = .ok (.tuple #[x, .bool true]) w := by kernel_rfl
theorem ts_3_1 (x : Value) (w : World) : (Instr.typeAssert (.iface 287 x) 234 279 true).run Tryz.prog w = .ok (.tuple #[.agg #[.int .i64 0, .int .i64 0, .nilIface], .bool false]) w := by kernel_rfl
theorem ts_3_2 (x : Value) (w : World) : (Instr.typeAssert (.iface 287 x) 234 283 true).run Tryz.prog w = .ok (.tuple #[.agg #[.int .i64 0, .int .i64 0], .bool false]) w := by kernel_rfl
theorem ts_3_3 (x : Value) (w : World) : (Instr.typeAssert (.iface 287 x) 234 287 true).run Tryz.prog w = .ok (.tuple #[x, .bool true]) w := by kernel_rfl
theorem ts_4_1 (x : Value) (w : World) : (Instr.typeAssert (.iface 290 x) 234 279 true).run Tryz.prog w = .ok (.tuple #[.agg #[.int .i64 0, .int .i64 0, .nilIface], .bool false]) w := by kernel_rfl
theorem ts_4_2 (x : Value) (w : World) : (Instr.typeAssert (.iface 290 x) 234 283 true).run Tryz.prog w = .ok (.tuple #[.agg #[.int .i64 0, .int .i64 0], .bool false]) w := by kernel_rfl
theorem ts_4_3 (x : Value) (w : World) : (Instr.typeAssert (.iface 290 x) 234 287 true).run Tryz.prog w = .ok (.tuple #[.agg #[.int .i64 0, .int .i64 0, .int .i64 0, .nilIface, .nilIface], .bool false]) w := by kernel_rfl
theorem ts_4_4 (x : Value) (w : World) : (Instr.typeAssert (.iface 290 x) 234 290 true).run Tryz.prog w = .ok (.tuple #[x, .bool true]) w := by kernel_rfl
theorem ts_5_1 (x : Value) (w : World) : (Instr.typeAssert (.iface 293 x) 234 279 true).run Tryz.prog w = .ok (.tuple #[.agg #[.int .i64 0, .int .i64 0, .nilIface], .bool false]) w := by kernel_rfl
theorem ts_5_2 (x : Value) (w : World) : (Instr.typeAssert (.iface 293 x) 234 283 true).run Tryz.prog w = .ok (.tuple #[.agg #[.int .i64 0, .int .i64 0], .bool false]) w := by kernel_rfl
theorem ts_5_3 (x : Value) (w : World) : (Instr.typeAssert (.iface 293 x) 234 287 true).run Tryz.prog w = .ok (.tuple #[.agg #[.int .i64 0, .int .i64 0, .int .i64 0, .nilIface, .nilIface], .bool false]) w := by kernel_rfl
theorem ts_5_4 (x : Value) (w : World) : (Instr.typeAssert (.iface 293 x) 234 290 true).run Tryz.prog w = .ok (.tuple #[.agg #[.int .i64 0, .int .i64 0, .nilIface, .nilIface, .slice none 0 0, .slice none 0 0, .bool false], .bool false]) w := by kernel_rfl
theorem ts_5_5 (x : Value) (w : World) : (Instr.typeAssert (.iface 293 x) 234 293 true).run Tryz.prog w = .ok (.tuple #[x, .bool true]) w := by kernel_rfl

end Go.Proofs.YtiopfihjmkfdmaaGreatDoor
