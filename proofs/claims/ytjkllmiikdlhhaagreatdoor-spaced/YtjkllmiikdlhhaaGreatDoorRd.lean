/- THE READER IN MEMORY: its block; fault, need, take, step, enter. -/
import Derived.Test.YtjkllmiikdlhhaaGreatDoorScan2
import Derived.Deep.RegionWith
import Derived.Deep.DeepFit
namespace Go.Proofs.YtjkllmiikdlhhaaGreatDoor
open Go.RowKit
set_option maxRecDepth 100000
set_option maxHeartbeats 400000

/-- the reader's cells: its text, the token that is not taken yet, how much is open, two maps -/
def rdCells (s : ByteArray) (m1 m2 : Nat) (l : Sp.Bs) (o : Nat) : Array Value :=
  #[.string s, .int .i64 ((s.size - l.length : Nat) : Int), .int .i64 (Sp.tokKind l), .string ⟨(Sp.tok l).toArray⟩, .int .i64 o, .map (some m1), .map (some m2)]

structure Rd (b : Nat) (s : ByteArray) (m1 m2 : Nat) (l : Sp.Bs) (o : Nat) (w : World) : Prop where
  blk : w.heap[b]? = some (.cells (rdCells s m1 m2 l o) 67)
  suf : l <:+ s.data.toList
  sz : s.size ≤ 400

theorem Rd.len {b : Nat} {s : ByteArray} {m1 m2 : Nat} {l : Sp.Bs} {o : Nat} {w : World} (h : Rd b s m1 m2 l o w) : l.length ≤ s.size := by
  have := h.suf.length_le
  simpa using this

theorem Rd.lt {b : Nat} {s : ByteArray} {m1 m2 : Nat} {l : Sp.Bs} {o : Nat} {w : World} (h : Rd b s m1 m2 l o w) : b < w.heap.size := heap_lt h.blk

theorem Rd.c0 {b : Nat} {s : ByteArray} {m1 m2 : Nat} {l : Sp.Bs} {o : Nat} {w : World} (h : Rd b s m1 m2 l o w) : w.cell? ⟨b, 0, none⟩ = some (.string s) := cell_of h.blk 0 rfl
theorem Rd.c1 {b : Nat} {s : ByteArray} {m1 m2 : Nat} {l : Sp.Bs} {o : Nat} {w : World} (h : Rd b s m1 m2 l o w) : w.cell? ⟨b, 1, none⟩ = some (.int .i64 ((s.size - l.length : Nat) : Int)) := cell_of h.blk 1 rfl
theorem Rd.c2 {b : Nat} {s : ByteArray} {m1 m2 : Nat} {l : Sp.Bs} {o : Nat} {w : World} (h : Rd b s m1 m2 l o w) : w.cell? ⟨b, 2, none⟩ = some (.int .i64 (Sp.tokKind l)) := cell_of h.blk 2 rfl
theorem Rd.c3 {b : Nat} {s : ByteArray} {m1 m2 : Nat} {l : Sp.Bs} {o : Nat} {w : World} (h : Rd b s m1 m2 l o w) : w.cell? ⟨b, 3, none⟩ = some (.string ⟨(Sp.tok l).toArray⟩) := cell_of h.blk 3 rfl
theorem Rd.c4 {b : Nat} {s : ByteArray} {m1 m2 : Nat} {l : Sp.Bs} {o : Nat} {w : World} (h : Rd b s m1 m2 l o w) : w.cell? ⟨b, 4, none⟩ = some (.int .i64 o) := cell_of h.blk 4 rfl
theorem Rd.c5 {b : Nat} {s : ByteArray} {m1 m2 : Nat} {l : Sp.Bs} {o : Nat} {w : World} (h : Rd b s m1 m2 l o w) : w.cell? ⟨b, 5, none⟩ = some (.map (some m1)) := cell_of h.blk 5 rfl
theorem Rd.c6 {b : Nat} {s : ByteArray} {m1 m2 : Nat} {l : Sp.Bs} {o : Nat} {w : World} (h : Rd b s m1 m2 l o w) : w.cell? ⟨b, 6, none⟩ = some (.map (some m2)) := cell_of h.blk 6 rfl
theorem Rd.fz {b : Nat} {s : ByteArray} {m1 m2 : Nat} {l : Sp.Bs} {o : Nat} {w : World} (h : Rd b s m1 m2 l o w) (i : Nat) : w.frozen? ⟨b, i, none⟩ = false := frozen_of h.blk i

/-- what the call ends in at a fault: a panic with a new *api.Fault that tells the error and its place -/
def Faulty (s : ByteArray) (b : Nat) (w : World) (er : Nat × Nat) (e : Ending) (w' : World) : Prop :=
  ∃ N, e = .panicked [{ v := .iface 40 (.pointer (some ⟨N, 0, none⟩)), recovered := false }] ∧ w'.heap[N]? = some (.cells #[.int .i64 ((s.size - er.2 : Nat) : Int), .int .i64 er.1] 46) ∧ Ext b w w' ∧ N ≠ b ∧ w.heap.size ≤ N

theorem Faulty.ahead {s : ByteArray} {b : Nat} {w w1 : World} {er : Nat × Nat} {e : Ending} {w' : World} (h : Ext b w w1) (k : Faulty s b w1 er e w') : Faulty s b w er e w' := by
  obtain ⟨N, h1, h2, h3, h4, h5⟩ := k
  exact ⟨N, h1, h2, h.trans h3, h4, Nat.le_trans h.size h5⟩

theorem fault_calls {b : Nat} {s : ByteArray} {m1 m2 : Nat} {l : Sp.Bs} {o : Nat} {w : World} (h : Rd b s m1 m2 l o w) (er : Int) :
    Calls Tryz.prog 39 #[.pointer (some ⟨b, 0, none⟩), .int .i64 er] w fun e w' =>
      e = .returned (.pointer (some ⟨w.heap.size, 0, none⟩)) ∧ w' = w.alloc (.cells #[.int .i64 ((s.size - l.length : Nat) : Int), .int .i64 er] 46) := by
  have h1 := h.c1
  go_enter Tryz.func39, Tryz.ntmps39
  go_wp2
  go_ret
  exact ⟨rfl, rfl⟩

theorem faulty_of {b : Nat} {s : ByteArray} {m1 m2 : Nat} {l : Sp.Bs} {o : Nat} {w : World} (h : Rd b s m1 m2 l o w) (er : Nat) (ei : Int) (he : ei = er) :
    Faulty s b w (er, l.length) (.panicked [{ v := .iface 40 (.pointer (some ⟨w.heap.size, 0, none⟩)), recovered := false }]) (w.alloc (.cells #[.int .i64 ((s.size - l.length : Nat) : Int), .int .i64 ei] 46)) := by
  subst he
  refine ⟨w.heap.size, rfl, heap_alloc_new _ _, (Ext.refl b w).alloc _, ?_, Nat.le_refl _⟩
  have := h.lt
  omega

theorem tok_ne_beq {l t : Sp.Bs} (h : Sp.tok l ≠ t) : (Sp.tok l == t) = false := by simpa using h
theorem tok_beq {l t : Sp.Bs} (h : Sp.tok l = t) : (Sp.tok l == t) = true := by simpa using h

theorem need_ok {b : Nat} {s : ByteArray} {m1 m2 : Nat} {l : Sp.Bs} {o : Nat} {w : World} (h : Rd b s m1 m2 l o w) (t : Sp.Bs) (ht : Sp.tok l = t) :
    Calls Tryz.prog 93 #[.pointer (some ⟨b, 0, none⟩), .string ⟨t.toArray⟩] w fun e w' => e = .returned (.tuple #[]) ∧ w' = w := by
  have h3 := h.c3
  subst ht
  go_enter Tryz.func93, Tryz.ntmps93
  go_wp2_with fail
  go_end0
  exact ⟨rfl, rfl⟩

theorem need_bad {b : Nat} {s : ByteArray} {m1 m2 : Nat} {l : Sp.Bs} {o : Nat} {w : World} (h : Rd b s m1 m2 l o w) (t : Sp.Bs) (ht : Sp.tok l ≠ t) :
    Calls Tryz.prog 93 #[.pointer (some ⟨b, 0, none⟩), .string ⟨t.toArray⟩] w fun e w' => Faulty s b w (2, l.length) e w' := by
  have h3 := h.c3
  have hb := tok_ne_beq ht
  go_enter Tryz.func93, Tryz.ntmps93
  go_wp2_with fail
  refine (fault_calls h 2).mono ?_
  rintro e w' ⟨rfl, rfl⟩
  go_wp2_with fail
  exact ⟨rfl, faulty_of h 2 2 rfl⟩

/-- the next token -/
theorem Rd.drop_eq {b : Nat} {s : ByteArray} {m1 m2 : Nat} {l : Sp.Bs} {o : Nat} {w : World} (h : Rd b s m1 m2 l o w) : s.data.toList.drop (s.size - l.length + Sp.tokLen l) = l.drop (Sp.tokLen l) := by
  obtain ⟨p, hp⟩ := h.suf
  have hs : s.size = p.length + l.length := by
    have : s.data.toList.length = s.size := by simp
    rw [← this, ← hp, List.length_append]
  rw [← hp, hs]
  rw [List.drop_append]
  rw [List.drop_of_length_le (by omega), List.nil_append]
  congr 1
  omega

theorem rd_at {b : Nat} {s : ByteArray} {m1 m2 : Nat} {l : Sp.Bs} {o : Nat} {w w1 : World} (h : Rd b s m1 m2 l o w) (hb : Below w.heap.size w w1) : Rd b s m1 m2 l o w1 :=
  ⟨by rw [hb.block b h.lt]; exact h.blk, h.suf, h.sz⟩

theorem rd_stored {b : Nat} {s : ByteArray} {m1 m2 : Nat} {l : Sp.Bs} {o : Nat} {w w1 : World} (h : Rd b s m1 m2 l o w) (hb : Below w.heap.size w w1) (l' : Sp.Bs) (hl' : l' <:+ s.data.toList) :
    Rd b s m1 m2 l' o (((w1.setCell ⟨b, 1, none⟩ (.int .i64 ((s.size - l'.length : Nat) : Int))).setCell ⟨b, 2, none⟩ (.int .i64 (Sp.tokKind l'))).setCell ⟨b, 3, none⟩ (.string ⟨(Sp.tok l').toArray⟩)) ∧
    Ext b w (((w1.setCell ⟨b, 1, none⟩ (.int .i64 ((s.size - l'.length : Nat) : Int))).setCell ⟨b, 2, none⟩ (.int .i64 (Sp.tokKind l'))).setCell ⟨b, 3, none⟩ (.string ⟨(Sp.tok l').toArray⟩)) := by
  have h1 := rd_at h hb
  have x0 : Ext b w w1 := Ext.of_below hb
  have x1 : Ext b w (w1.setCell ⟨b, 1, none⟩ (.int .i64 ((s.size - l'.length : Nat) : Int))) := x0.setCell (p := ⟨b, 1, none⟩) (.inl rfl) _
  have x2 := x1.setCell (p := ⟨b, 2, none⟩) (.inl rfl) (.int .i64 (Sp.tokKind l'))
  have x3 := x2.setCell (p := ⟨b, 3, none⟩) (.inl rfl) (.string ⟨(Sp.tok l').toArray⟩)
  refine ⟨⟨?_, hl', h.sz⟩, x3⟩
  have e := heap_setCell_at (heap_setCell_at (heap_setCell_at h1.blk 1 (.int .i64 ((s.size - l'.length : Nat) : Int))) 2 (.int .i64 (Sp.tokKind l'))) 3 (.string ⟨(Sp.tok l').toArray⟩)
  rw [e]
  rfl

theorem below_undrew {w w1 : World} (h : Below w.drew.heap.size w.drew w1) : Below w.heap.size w w1 := ⟨h.os, h.tape, h.output, h.size, h.block⟩

theorem rd_facts {b : Nat} {s : ByteArray} {m1 m2 : Nat} {l : Sp.Bs} {o : Nat} {w w1 : World} (h : Rd b s m1 m2 l o w) (hb : Below w.drew.heap.size w.drew w1) :
    w1.cell? ⟨b, 1, none⟩ = some (.int .i64 ((s.size - l.length : Nat) : Int)) ∧ w1.cell? ⟨b, 2, none⟩ = some (.int .i64 (Sp.tokKind l)) ∧ w1.cell? ⟨b, 3, none⟩ = some (.string ⟨(Sp.tok l).toArray⟩) ∧ w1.frozen? ⟨b, 1, none⟩ = false ∧ w1.frozen? ⟨b, 2, none⟩ = false ∧ w1.frozen? ⟨b, 3, none⟩ = false := by
  have h1 := rd_at h (below_undrew hb)
  exact ⟨h1.c1, h1.c2, h1.c3, h1.fz 1, h1.fz 2, h1.fz 3⟩

theorem tokVal_eq (s : ByteArray) (l : Sp.Bs) : Value.agg (tokVal s l) = .agg #[.int .i64 ((s.size - l.length : Nat) : Int), .int .i64 (Sp.tokKind l), .string ⟨(Sp.tok l).toArray⟩] := rfl

end Go.Proofs.YtjkllmiikdlhhaaGreatDoor
