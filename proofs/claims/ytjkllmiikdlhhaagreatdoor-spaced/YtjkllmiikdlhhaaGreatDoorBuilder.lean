/- THE PRINTER IN MEMORY: its Builder, the blocks that are open; copyCheck, WriteString, String. -/
import Derived.Test.YtjkllmiikdlhhaaGreatDoorProgram
import Derived.Lib.Builder
import Derived.Lib.AppendStr
import Derived.Lib.UnsafeStr
import Derived.Laws.Externs
namespace Go.Proofs.YtjkllmiikdlhhaaGreatDoor
open Go.RowKit
set_option maxRecDepth 100000
set_option maxHeartbeats 1000000

/-- the printer's block b: 'addr', the buffer that holds the text, how many blocks are open; all from block number B on -/
def PrAt (B b d : Nat) (t : Sp.Bs) (w : World) : Prop :=
  ∃ p v, w.heap[b]? = some (.cells #[p, v, .int .i64 (d : Nat)] 75) ∧ (p = .pointer none ∨ p = .pointer (some ⟨b, 0, none⟩)) ∧ w.ownsRow B 5 1 v t.length (Lib.byteCells t) ∧ v.ownBlock ≠ some b ∧ B ≤ b

theorem PrAt.lt {B b d : Nat} {t : Sp.Bs} {w : World} (h : PrAt B b d t w) : B ≤ b ∧ b < w.heap.size := by
  obtain ⟨p, v, hb, _, _, _, hB⟩ := h
  exact ⟨hB, heap_lt hb⟩

theorem infoBuilder : (Tryz.prog.info? 73).map (·.size) = some 2 := by kernel_rfl
theorem infoByte : (Tryz.prog.info? 5).map (fun i => (i.zero, i.size, i.bytes)) = some (some (.int .u8 0), 1, 1) := by kernel_rfl
theorem liesBuilder : liesAt Tryz.prog Tryz.prog.depth 75 (3 / Tryz.prog.cellsOf 75) 0 73 1 = true := by kernel_rfl
theorem cellsByte : Tryz.prog.cellsOf 5 = 1 := by kernel_rfl

theorem copyCheck_used (b : Nat) (w : World) (h0 : w.cell? ⟨b, 0, none⟩ = some (.pointer (some ⟨b, 0, none⟩))) :
    Calls Tryz.prog 89 #[.pointer (some ⟨b, 0, none⟩)] w fun e w' => e = .returned (.tuple #[]) ∧ w' = w := by
  obtain ⟨j, hj, _⟩ := Option.map_eq_some_iff.1 infoBuilder
  go_enter Tryz.func89, Tryz.ntmps89
  go_wp2
  rw [Lib.run_neq_ptr_same w _ Tryz.underlying70 hj]
  go_wp2
  go_end0
  exact ⟨rfl, rfl⟩

theorem copyCheck_fresh (b : Nat) (v d : Value) (w : World) (hbk : w.heap[b]? = some (.cells #[.pointer none, v, d] 75)) :
    Calls Tryz.prog 89 #[.pointer (some ⟨b, 0, none⟩)] w fun e w' => e = .returned (.tuple #[]) ∧ w' = w.setCell ⟨b, 0, none⟩ (.pointer (some ⟨b, 0, none⟩)) := by
  obtain ⟨j, hj, hjs⟩ := Option.map_eq_some_iff.1 infoBuilder
  have h0 := cell_of hbk 0 (v := .pointer none) rfl
  have hfz := frozen_of hbk 0
  have hsh : w.shape? b = some (75, 3) := by simp [World.shape?, hbk]
  clear hbk
  go_enter Tryz.func89, Tryz.ntmps89
  go_wp2
  rw [Lib.run_to_unsafe w ⟨b, 0, none⟩ Tryz.underlying70 Tryz.underlying78 hj (by rw [hjs]; decide) hsh (Nat.zero_lt_succ 2)]
  simp only [Result.andThen]
  rw [Oper.upon_value]
  go_wp2
  rw [run_callFunc_extern Tryz.func98 (by kernel_rfl) (by kernel_rfl) (by kernel_rfl) (e := Extern.AbiNoEscape.same) (by kernel_rfl)]
  rw [Lib.run_noEscape]
  simp only [Result.andThen]
  rw [Oper.upon_value]
  go_wp2
  rw [Lib.run_from_unsafe w ⟨b, 0, none⟩ Tryz.underlying78 Tryz.underlying70 hj hsh liesBuilder]
  simp only [Result.andThen]
  rw [Oper.upon_value]
  go_wp2
  go_end0
  exact ⟨rfl, rfl⟩

/-- what writing keeps: all below B; and all but the printer's block and rows of bytes -/
structure PKeep (B b : Nat) (w w' : World) : Prop where
  below : Below B w w'
  others : ∀ k, k < w.heap.size → k ≠ b → (∀ c fz, w.heap[k]? ≠ some (.cells c 5 fz)) → w'.heap[k]? = w.heap[k]?

theorem PKeep.refl (B b : Nat) (w : World) : PKeep B b w w := ⟨Below.refl _ _, fun _ _ _ _ => rfl⟩
theorem PKeep.trans {B b : Nat} {w1 w2 w3 : World} (h : PKeep B b w1 w2) (k : PKeep B b w2 w3) : PKeep B b w1 w3 :=
  ⟨h.below.trans k.below, fun i hi hb hn => by
    have e := h.others i hi hb hn
    rw [k.others i (Nat.lt_of_lt_of_le hi h.below.size) hb (by rw [e]; exact hn), e]⟩
theorem PKeep.of_below {B b : Nat} {w w' : World} (h : Below w.heap.size w w') (hB : B ≤ w.heap.size) : PKeep B b w w' :=
  ⟨h.mono hB, fun k hk _ _ => h.block k hk⟩
theorem PKeep.alloc {B b : Nat} {w w' : World} (h : PKeep B b w w') (hB : B ≤ w.heap.size) (o : Obj) : PKeep B b w (w'.alloc o) := by
  have hs := h.below.size
  exact ⟨h.below.alloc (by omega) o, fun k hk hb hn => by rw [Below.heap_alloc _ _ _ (by omega)]; exact h.others k hk hb hn⟩
theorem PKeep.cell {B b : Nat} {w w' : World} (h : PKeep B b w w') {k : Nat} {c : Array Value} {e : TypeId} {fz : Nat × Nat} (hk : w.heap[k]? = some (.cells c e fz)) (hb : k ≠ b) (he : e ≠ 5) : w'.heap[k]? = some (.cells c e fz) := by
  rw [h.others k (heap_lt hk) hb (fun c' fz' e' => by rw [hk] at e'; cases e'; exact he rfl)]; exact hk

/-- a used printer: 'addr' is its own -/
def PrUsed (B b d : Nat) (t : Sp.Bs) (w : World) : Prop :=
  ∃ v, w.heap[b]? = some (.cells #[.pointer (some ⟨b, 0, none⟩), v, .int .i64 (d : Nat)] 75) ∧ w.ownsRow B 5 1 v t.length (Lib.byteCells t) ∧ v.ownBlock ≠ some b ∧ B ≤ b

theorem PrUsed.at {B b d : Nat} {t : Sp.Bs} {w : World} (h : PrUsed B b d t w) : PrAt B b d t w := by
  obtain ⟨v, h1, h2, h3, h4⟩ := h
  exact ⟨_, v, h1, .inr rfl, h2, h3, h4⟩

theorem ownsRow_setCell_other {w : World} {base n : Nat} {e : TypeId} {v : Value} {xs : List Value} (h : w.ownsRow base e 1 v n xs) {a : Addr} (ha : v.ownBlock ≠ some a.block) (u : Value) : (w.setCell a u).ownsRow base e 1 v n xs := by
  obtain ⟨h1, h2⟩ := h
  refine ⟨h1, ?_⟩
  rcases h2 with h2 | ⟨g, cap, cur, rfl, hg, hh, r⟩
  · exact .inl h2
  · refine .inr ⟨g, cap, cur, rfl, hg, ?_, r⟩
    rw [Below.heap_setCell _ _ _ _ (fun e => ha (by simp [Value.ownBlock, e]))]
    exact hh

theorem copyCheck_calls (B b d : Nat) (t : Sp.Bs) (w : World) (h : PrAt B b d t w) :
    Calls Tryz.prog 89 #[.pointer (some ⟨b, 0, none⟩)] w fun e w' => e = .returned (.tuple #[]) ∧ PrUsed B b d t w' ∧ PKeep B b w w' := by
  obtain ⟨p, v, hb, hp, ho, hne, hB⟩ := h
  rcases hp with rfl | rfl
  · refine (copyCheck_fresh b v _ w hb).mono ?_
    rintro e w' ⟨rfl, rfl⟩
    refine ⟨rfl, ⟨v, ?_, ownsRow_setCell_other ho (a := ⟨b, 0, none⟩) hne _, hne, hB⟩, (Below.refl _ _).setCell (p := ⟨b, 0, none⟩) hB _, fun k _ hk _ => Below.heap_setCell _ _ _ _ hk⟩
    rw [heap_setCell_at hb 0 (.pointer (some ⟨b, 0, none⟩))]
    rfl
  · refine (copyCheck_used b w (cell_of hb 0 rfl)).mono ?_
    rintro e w' ⟨rfl, rfl⟩
    exact ⟨rfl, ⟨v, hb, ho, hne, hB⟩, PKeep.refl _ _ _⟩

theorem byteCells_append (t : Sp.Bs) (s : ByteArray) : Lib.byteCells t ++ Lib.strCells s = Lib.byteCells (t ++ s.data.toList) := by
  simp [Lib.byteCells, Lib.strCells]

theorem writeString_calls (B b d : Nat) (t : Sp.Bs) (s : ByteArray) (w : World) (h : PrAt B b d t w) (hlen : t.length + s.size ≤ 140737488355328) (hBw : B ≤ w.heap.size) :
    Calls Tryz.prog 75 #[.pointer (some ⟨b, 0, none⟩), .string s] w fun e w' => e = .returned (.tuple #[.int .i64 s.size, .nilIface]) ∧ PrAt B b d (t ++ s.data.toList) w' ∧ PKeep B b w w' := by
  obtain ⟨i0, hi, hz0, hz1, hz2⟩ := info_parts infoByte
  go_enter Tryz.func75, Tryz.ntmps75
  go_wp2_with fail
  refine (copyCheck_calls B b d t _ h).mono ?_
  rintro e w1 ⟨rfl, h1, hb1⟩
  obtain ⟨v, hbk, hown, hne, hB⟩ := h1
  have c1 := cell_of hbk 1 (v := v) rfl
  have hbs := hb1.below.size
  go_wp2_with (at_builtin; refine Lib.wpList_append_own_string _ rfl _ _ 71 9 rfl B 5 i0 Tryz.underlying71 Tryz.underlying9 hi hz0 hz1 hz2 _ _ _ rfl hown s rfl ?c3 ?c4 ?c5 ?_)
  case c3 => unfold maxLen; omega
  case c4 => omega
  case c5 => omega
  intro v' w2 hown' hgrow _
  have hlt : b < w1.heap.size := heap_lt hbk
  have hb2 : w2.heap[b]? = some (.cells #[.pointer (some ⟨b, 0, none⟩), v, .int .i64 (d : Nat)] 75) := by
    rw [hgrow.block b hlt (fun e => hne e.symm)]; exact hbk
  have d1 := cell_of hb2 1 (v := v) rfl
  have f1 := frozen_of hb2 1
  obtain ⟨ao, n', cap, rfl⟩ : ∃ ao n' cap, v' = .slice ao n' cap := by
    rcases hown'.2 with ⟨hv, _⟩ | ⟨g, cap, cur, hv, _⟩
    · exact ⟨_, _, _, hv⟩
    · exact ⟨_, _, _, hv⟩
  have hne2 : (Value.slice ao n' cap).ownBlock ≠ some b := by
    intro e
    rcases hown'.2 with ⟨hv, _⟩ | ⟨g, cap', cur, hv, _, hg, _⟩
    · rw [hv] at e; simp [Value.ownBlock] at e
    · rw [hv] at e
      simp [Value.ownBlock] at e
      subst e
      rw [hb2] at hg
      simp at hg
  have HP : Hid (PrAt B b d (t ++ s.data.toList) (w2.setCell ⟨b, 1, none⟩ (.slice ao n' cap))) := by
    refine ⟨_, .slice ao n' cap, ?_, .inr rfl, ?_, hne2, hB⟩
    · rw [heap_setCell_at hb2 1 (.slice ao n' cap)]; rfl
    · have := ownsRow_setCell_other hown' (a := ⟨b, 1, none⟩) hne2 (.slice ao n' cap)
      rw [byteCells_append] at this
      simpa using this
  have hk2 : PKeep B b w1 (w2.setCell ⟨b, 1, none⟩ (.slice ao n' cap)) := by
    refine ⟨((Below.refl B w1).grown hgrow (by omega) (fun k hk => (ownsRow_lt hown k hk).1)).setCell (p := ⟨b, 1, none⟩) hB _, fun k hk hkb hn => ?_⟩
    rw [Below.heap_setCell _ _ _ _ hkb]
    refine hgrow.block k hk (fun e => ?_)
    rcases hown.2 with ⟨hv, _⟩ | ⟨g, cap', cur, hv, _, hg, _⟩
    · rw [hv] at e; simp [Value.ownBlock] at e
    · rw [hv] at e
      simp [Value.ownBlock] at e
      subst e
      exact hn _ _ hg
  have HB : Hid (PKeep B b w (w2.setCell ⟨b, 1, none⟩ (.slice ao n' cap))) := hb1.trans hk2
  clear hk2
  clear hown' hgrow hown
  go_wp2
  go_ret2
  exact ⟨rfl, HP.out, HB.out⟩

end Go.Proofs.YtjkllmiikdlhhaaGreatDoor
