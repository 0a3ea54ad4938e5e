/- THE PRINTER IN MEMORY: its Builder, the blocks that are open; copyCheck, WriteString, String. -/
import Derived.Test.YtiopfihjmkfdmaaGreatDoorGProgram
import Derived.Lib.Builder
import Derived.Lib.AppendStr
import Derived.Lib.UnsafeStr
import Derived.Laws.Externs
namespace Go.Proofs.YtiopfihjmkfdmaaGreatDoor
open Go.RowKit
set_option maxRecDepth 100000
set_option maxHeartbeats 1000000

/-- the printer's block b: 'addr', the buffer that holds the text, how many blocks are open; all from block number B on -/
def PrAt (B b d : Nat) (t : Sp.Bs) (w : World) : Prop :=
  ∃ p v, w.heap[b]? = some (.cells #[p, v, .int .i64 (d : Nat)] 155) ∧ (p = .pointer none ∨ p = .pointer (some ⟨b, 0, none⟩)) ∧ w.ownsRow B 5 1 v t.length (Lib.byteCells t) ∧ v.ownBlock ≠ some b ∧ B ≤ b

theorem PrAt.lt {B b d : Nat} {t : Sp.Bs} {w : World} (h : PrAt B b d t w) : B ≤ b ∧ b < w.heap.size := by
  obtain ⟨p, v, hb, _, _, _, hB⟩ := h
  exact ⟨hB, heap_lt hb⟩

theorem infoBuilder : (Tryz.prog.info? 153).map (·.size) = some 2 := by kernel_rfl
theorem infoByte : (Tryz.prog.info? 5).map (fun i => (i.zero, i.size, i.bytes)) = some (some (.int .u8 0), 1, 1) := by kernel_rfl
theorem liesBuilder : liesAt Tryz.prog Tryz.prog.depth 155 (3 / Tryz.prog.cellsOf 155) 0 153 1 = true := by kernel_rfl
theorem cellsByte : Tryz.prog.cellsOf 5 = 1 := by kernel_rfl

theorem copyCheck_used (b : Nat) (w : World) (h0 : w.cell? ⟨b, 0, none⟩ = some (.pointer (some ⟨b, 0, none⟩))) :
    Calls Tryz.prog 208 #[.pointer (some ⟨b, 0, none⟩)] w fun e w' => e = .returned (.tuple #[]) ∧ w' = w := by
  obtain ⟨j, hj, _⟩ := Option.map_eq_some_iff.1 infoBuilder
  go_enter Tryz.func208, Tryz.ntmps208
  go_wp2
  rw [Lib.run_neq_ptr_same w _ Tryz.underlying150 hj]
  go_wp2
  go_end0
  exact ⟨rfl, rfl⟩

theorem copyCheck_fresh (b : Nat) (v d : Value) (w : World) (hbk : w.heap[b]? = some (.cells #[.pointer none, v, d] 155)) :
    Calls Tryz.prog 208 #[.pointer (some ⟨b, 0, none⟩)] w fun e w' => e = .returned (.tuple #[]) ∧ w' = w.setCell ⟨b, 0, none⟩ (.pointer (some ⟨b, 0, none⟩)) := by
  obtain ⟨j, hj, hjs⟩ := Option.map_eq_some_iff.1 infoBuilder
  have h0 := cell_of hbk 0 (v := .pointer none) rfl
  have hfz := frozen_of hbk 0
  have hsh : w.shape? b = some (155, 3) := by simp [World.shape?, hbk]
  clear hbk
  go_enter Tryz.func208, Tryz.ntmps208
  go_wp2
  rw [Lib.run_to_unsafe w ⟨b, 0, none⟩ Tryz.underlying150 Tryz.underlying158 hj (by rw [hjs]; decide) hsh (Nat.zero_lt_succ 2)]
  simp only [Result.andThen]
  rw [Oper.upon_value]
  go_wp2
  rw [run_callFunc_extern Tryz.func236 (by kernel_rfl) (by kernel_rfl) (by kernel_rfl) (e := Extern.AbiNoEscape.same) (by kernel_rfl)]
  rw [Lib.run_noEscape]
  simp only [Result.andThen]
  rw [Oper.upon_value]
  go_wp2
  rw [Lib.run_from_unsafe w ⟨b, 0, none⟩ Tryz.underlying158 Tryz.underlying150 hj hsh liesBuilder]
  simp only [Result.andThen]
  rw [Oper.upon_value]
  go_wp2
  go_end0
  exact ⟨rfl, rfl⟩

/-- what writing keeps: all below B; and all but the printer's block and rows of bytes -/
structure PKeep (B b : Nat) (w w' : World) : Prop where
  below : Below B w w'
  others : ∀ k, k < w.heap.size → k ≠ b → (∀ c fz, w.heap[k]? ≠ some (.cells c 5 fz)) → w'.heap[k]? = w.heap[k]?

theorem PKeep.refl (B b : Nat) (w : World) : PKeep B b w w := ⟨Below.refl _ _, fun _ _ _ _ => rfl⟩
theorem PKeep.trans {B b : Nat} {w1 w2 w3 : World} (h : PKeep B b w1 w2) (k : PKeep B b w2 w3) : PKeep B b w1 w3 :=
  ⟨h.below.trans k.below, fun i hi hb hn => by
    have e := h.others i hi hb hn
    rw [k.others i (Nat.lt_of_lt_of_le hi h.below.size) hb (by rw [e]; exact hn), e]⟩
theorem PKeep.of_below {B b : Nat} {w w' : World} (h : Below w.heap.size w w') (hB : B ≤ w.heap.size) : PKeep B b w w' :=
  ⟨h.mono hB, fun k hk _ _ => h.block k hk⟩
theorem PKeep.alloc {B b : Nat} {w w' : World} (h : PKeep B b w w') (hB : B ≤ w.heap.size) (o : Obj) : PKeep B b w (w'.alloc o) := by
  have hs := h.below.size
  exact ⟨h.below.alloc (by omega) o, fun k hk hb hn => by rw [Below.heap_alloc _ _ _ (by omega)]; exact h.others k hk hb hn⟩
theorem PKeep.cell {B b : Nat} {w w' : World} (h : PKeep B b w w') {k : Nat} {c : Array Value} {e : TypeId} {fz : Nat × Nat} (hk : w.heap[k]? = some (.cells c e fz)) (hb : k ≠ b) (he : e ≠ 5) : w'.heap[k]? = some (.cells c e fz) := by
  rw [h.others k (heap_lt hk) hb (fun c' fz' e' => by rw [hk] at e'; cases e'; exact he rfl)]; exact hk

/-- a used printer: 'addr' is its own -/
def PrUsed (B b d : Nat) (t : Sp.Bs) (w : World) : Prop :=
  ∃ v, w.heap[b]? = some (.cells #[.pointer (some ⟨b, 0, none⟩), v, .int .i64 (d : Nat)] 155) ∧ w.ownsRow B 5 1 v t.length (Lib.byteCells t) ∧ v.ownBlock ≠ some b ∧ B ≤ b

theorem PrUsed.at {B b d : Nat} {t : Sp.Bs} {w : World} (h : PrUsed B b d t w) : PrAt B b d t w := by
  obtain ⟨v, h1, h2, h3, h4⟩ := h
  exact ⟨_, v, h1, .inr rfl, h2, h3, h4⟩

theorem ownsRow_setCell_other {w : World} {base n : Nat} {e : TypeId} {v : Value} {xs : List Value} (h : w.ownsRow base e 1 v n xs) {a : Addr} (ha : v.ownBlock ≠ some a.block) (u : Value) : (w.setCell a u).ownsRow base e 1 v n xs := by
  obtain ⟨h1, h2⟩ := h
  refine ⟨h1, ?_⟩
  rcases h2 with h2 | ⟨g, cap, cur, rfl, hg, hh, r⟩
  · exact .inl h2
  · refine .inr ⟨g, cap, cur, rfl, hg, ?_, r⟩
    rw [Below.heap_setCell _ _ _ _ (fun e => ha (by simp [Value.ownBlock, e]))]
    exact hh

theorem copyCheck_calls (B b d : Nat) (t : Sp.Bs) (w : World) (h : PrAt B b d t w) :
    Calls Tryz.prog 208 #[.pointer (some ⟨b, 0, none⟩)] w fun e w' => e = .returned (.tuple #[]) ∧ PrUsed B b d t w' ∧ PKeep B b w w' := by
  obtain ⟨p, v, hb, hp, ho, hne, hB⟩ := h
  rcases hp with rfl | rfl
  · refine (copyCheck_fresh b v _ w hb).mono ?_
    rintro e w' ⟨rfl, rfl⟩
    refine ⟨rfl, ⟨v, ?_, ownsRow_setCell_other ho (a := ⟨b, 0, none⟩) hne _, hne, hB⟩, (Below.refl _ _).setCell (p := ⟨b, 0, none⟩) hB _, fun k _ hk _ => Below.heap_setCell _ _ _ _ hk⟩
    rw [heap_setCell_at hb 0 (.pointer (some ⟨b, 0, none⟩))]
    rfl
  · refine (copyCheck_used b w (cell_of hb 0 rfl)).mono ?_
    rintro e w' ⟨rfl, rfl⟩
    exact ⟨rfl, ⟨v, hb, ho, hne, hB⟩, PKeep.refl _ _ _⟩

theorem byteCells_append (t : Sp.Bs) (s : ByteArray) : Lib.byteCells t ++ Lib.strCells s = Lib.byteCells (t ++ s.data.toList) := by
  simp [Lib.byteCells, Lib.strCells]

theorem writeString_calls (B b d : Nat) (t : Sp.Bs) (s : ByteArray) (w : World) (h : PrAt B b d t w) (hlen : t.length + s.size ≤ 140737488355328) (hBw : B ≤ w.heap.size) :
    Calls Tryz.prog 169 #[.pointer (some ⟨b, 0, none⟩), .string s] w fun e w' => e = .returned (.tuple #[.int .i64 s.size, .nilIface]) ∧ PrAt B b d (t ++ s.data.toList) w' ∧ PKeep B b w w' := by
  obtain ⟨i0, hi, hz0, hz1, hz2⟩ := info_parts infoByte
  go_enter Tryz.func169, Tryz.ntmps169
  go_wp2_with fail
  refine (copyCheck_calls B b d t _ h).mono ?_
  rintro e w1 ⟨rfl, h1, hb1⟩
  obtain ⟨v, hbk, hown, hne, hB⟩ := h1
  have c1 := cell_of hbk 1 (v := v) rfl
  have hbs := hb1.below.size
  go_wp2_with (at_builtin; refine Lib.wpList_append_own_string _ rfl _ _ 151 9 rfl B 5 i0 Tryz.underlying151 Tryz.underlying9 hi hz0 hz1 hz2 _ _ _ rfl hown s rfl ?c3 ?c4 ?c5 ?_)
  case c3 => unfold maxLen; omega
  case c4 => omega
  case c5 => omega
  intro v' w2 hown' hgrow _
  have hlt : b < w1.heap.size := heap_lt hbk
  have hb2 : w2.heap[b]? = some (.cells #[.pointer (some ⟨b, 0, none⟩), v, .int .i64 (d : Nat)] 155) := by
    rw [hgrow.block b hlt (fun e => hne e.symm)]; exact hbk
  have d1 := cell_of hb2 1 (v := v) rfl
  have f1 := frozen_of hb2 1
  obtain ⟨ao, n', cap, rfl⟩ : ∃ ao n' cap, v' = .slice ao n' cap := by
    rcases hown'.2 with ⟨hv, _⟩ | ⟨g, cap, cur, hv, _⟩
    · exact ⟨_, _, _, hv⟩
    · exact ⟨_, _, _, hv⟩
  have hne2 : (Value.slice ao n' cap).ownBlock ≠ some b := by
    intro e
    rcases hown'.2 with ⟨hv, _⟩ | ⟨g, cap', cur, hv, _, hg, _⟩
    · rw [hv] at e; simp [Value.ownBlock] at e
    · rw [hv] at e
      simp [Value.ownBlock] at e
      subst e
      rw [hb2] at hg
      simp at hg
  have HP : Hid (PrAt B b d (t ++ s.data.toList) (w2.setCell ⟨b, 1, none⟩ (.slice ao n' cap))) := by
    refine ⟨_, .slice ao n' cap, ?_, .inr rfl, ?_, hne2, hB⟩
    · rw [heap_setCell_at hb2 1 (.slice ao n' cap)]; rfl
    · have := ownsRow_setCell_other hown' (a := ⟨b, 1, none⟩) hne2 (.slice ao n' cap)
      rw [byteCells_append] at this
      simpa using this
  have hk2 : PKeep B b w1 (w2.setCell ⟨b, 1, none⟩ (.slice ao n' cap)) := by
    refine ⟨((Below.refl B w1).grown hgrow (by omega) (fun k hk => (ownsRow_lt hown k hk).1)).setCell (p := ⟨b, 1, none⟩) hB _, fun k hk hkb hn => ?_⟩
    rw [Below.heap_setCell _ _ _ _ hkb]
    refine hgrow.block k hk (fun e => ?_)
    rcases hown.2 with ⟨hv, _⟩ | ⟨g, cap', cur, hv, _, hg, _⟩
    · rw [hv] at e; simp [Value.ownBlock] at e
    · rw [hv] at e
      simp [Value.ownBlock] at e
      subst e
      exact hn _ _ hg
  have HB : Hid (PKeep B b w (w2.setCell ⟨b, 1, none⟩ (.slice ao n' cap))) := hb1.trans hk2
  clear hk2
  clear hown' hgrow hown
  go_wp2
  go_ret2
  exact ⟨rfl, HP.out, HB.out⟩

end Go.Proofs.YtiopfihjmkfdmaaGreatDoor

/- (Builder) String. -/
namespace Go.Proofs.YtiopfihjmkfdmaaGreatDoor
open Go.RowKit
set_option maxRecDepth 100000
set_option maxHeartbeats 1000000

theorem string_calls (B b d : Nat) (l : Sp.Bs) (w : World) (h : PrAt B b d l w) (h0 : l ≠ []) :
    Calls Tryz.prog 60 #[.pointer (some ⟨b, 0, none⟩)] w fun e w' => e = .returned (.string ⟨l.toArray⟩) ∧ Below B w w' := by
  obtain ⟨p, v, hbk, _, hown, hne, hB⟩ := h
  have hl0 : l.length ≠ 0 := by simpa using h0
  obtain ⟨g, cap, cur, rfl, hbg, hg, hnc, hcm, hcs, htake⟩ : ∃ g cap cur, v = .slice (some ⟨g, 0, none⟩) l.length cap ∧ B ≤ g ∧ w.heap[g]? = some (.cells cur 5 (0, 0)) ∧ l.length ≤ cap ∧ cap ≤ maxLen ∧ cur.size = cap * 1 ∧ cur.toList.take (l.length * 1) = Lib.byteCells l := by
    rcases hown.2 with ⟨_, hz⟩ | ⟨g, cap, cur, hv, r⟩
    · exact absurd hz hl0
    · exact ⟨g, cap, cur, hv, r⟩
  have c1 : w.drew.cell? ⟨b, 1, none⟩ = some (.slice (some ⟨g, 0, none⟩) l.length cap) := cell_of (w := w.drew) hbk 1 rfl
  have hSD : (Builtin.unsafeSliceData_ #[151] 236 #[.slice (some ⟨g, 0, none⟩) l.length cap]).run Tryz.prog w.drew = .ok (.pointer (some ⟨g, 0, none⟩)) w.drew :=
    Lib.run_unsafeSliceData_row _ _ _ _ _ _ (by omega)
  have hUS : (Builtin.unsafeString_ #[236, 3] 9 #[.pointer (some ⟨g, 0, none⟩), .int .i64 l.length]).run Tryz.prog w.drew = .ok (.string ⟨l.toArray⟩) (w.drew.freeze ⟨g, 0, none⟩ l.length) := by
    refine Lib.run_unsafeString_row w.drew 236 3 9 5 Tryz.underlying236 cellsByte g cur.size (by have hg' : w.drew.heap[g]? = some (.cells cur 5 (0, 0)) := hg; simp [World.shape?, hg']) l h0 (by omega) (by unfold maxLen at hcm; omega) ?_
    intro j x hx
    have := hown.cells (g := g) rfl j (.int .u8 x.toNat) (by simp [Lib.byteCells, hx])
    exact this
  clear hown htake hcs hg hbk
  go_enter Tryz.func60, Tryz.ntmps60
  go_wp2
  go_region
  all_goals (go_wp2; go_ret; exact ⟨rfl, Lib.below_freeze (Below.drew (Below.refl B w)) (p := ⟨g, 0, none⟩) hbg _⟩)

theorem string_none (b : Nat) (p d : Value) (B : Nat) (w : World) (hbk : w.heap[b]? = some (.cells #[p, .slice none 0 0, d] 155)) :
    Calls Tryz.prog 60 #[.pointer (some ⟨b, 0, none⟩)] w fun e w' => e = .returned (.string ⟨#[]⟩) ∧ Below B w w' := by
  have hUS := fun (W : World) (q : Option Addr) => Lib.run_unsafeString_none (P := Tryz.prog) W 236 3 9 q
  have c1 : w.drew.cell? ⟨b, 1, none⟩ = some (.slice none 0 0) := cell_of (w := w.drew) hbk 1 rfl
  have hSD : (Builtin.unsafeSliceData_ #[151] 236 #[.slice none 0 0]).run Tryz.prog w.drew = .ok (.pointer none) w.drew := rfl
  go_enter Tryz.func60, Tryz.ntmps60
  go_wp2
  go_region
  all_goals (go_wp2; go_ret; exact ⟨rfl, Below.drew (Below.refl B w)⟩)

end Go.Proofs.YtiopfihjmkfdmaaGreatDoor

/- (printer) line. -/
namespace Go.Proofs.YtiopfihjmkfdmaaGreatDoor
open Go.RowKit
set_option maxRecDepth 100000
set_option maxHeartbeats 400000

/-- the parts of a line lie in a block -/
def PartsAt (a : Nat) (ps : List ByteArray) (w : World) : Prop := ∃ c, w.heap[a]? = some (.cells c 9) ∧ ∀ (i : Nat) (s : ByteArray), ps[i]? = some s → c[i]? = some (Value.string s)

theorem PartsAt.cell {a : Nat} {ps : List ByteArray} {w : World} (h : PartsAt a ps w) {i : Nat} {s : ByteArray} (hs : ps[i]? = some s) : w.cell? ⟨a, i, none⟩ = some (.string s) := by
  obtain ⟨c, hc, hi⟩ := h
  exact cell_of hc i (hi i s hs)

theorem PartsAt.keep {B b a : Nat} {ps : List ByteArray} {w w' : World} (h : PartsAt a ps w) (k : PKeep B b w w') (hab : a ≠ b) : PartsAt a ps w' := by
  obtain ⟨c, hc, hi⟩ := h
  exact ⟨c, k.cell hc hab (by decide), hi⟩

def joined (ps : List ByteArray) : Sp.Bs := (ps.map fun s => s.data.toList).flatten

theorem PrAt.depth {B b d : Nat} {t : Sp.Bs} {w : World} (h : PrAt B b d t w) : w.cell? ⟨b, 2, none⟩ = some (.int .i64 (d : Nat)) := by
  obtain ⟨p, v, hb, _⟩ := h
  exact cell_of hb 2 rfl

theorem pad_succ (k : Nat) : Sp.pad (k + 1) = Sp.pad k ++ [32, 32] := by
  unfold Sp.pad
  rw [show 2 * (k + 1) = 2 * k + 1 + 1 from by omega, List.replicate_succ', List.replicate_succ']
  simp

theorem joined_succ (ps : List ByteArray) (k : Nat) (s : ByteArray) (h : ps[k]? = some s) : joined (ps.take (k + 1)) = joined (ps.take k) ++ s.data.toList := by
  unfold joined
  have hk := (List.getElem?_eq_some_iff.1 h)
  rw [List.take_succ_eq_append_getElem hk.1, hk.2]
  simp

theorem joined_split (ps : List ByteArray) (k : Nat) : (joined ps).length = (joined (ps.take k)).length + (joined (ps.drop k)).length := by
  have h : joined ps = joined (ps.take k) ++ joined (ps.drop k) := by
    unfold joined
    rw [← List.flatten_append, ← List.map_append, List.take_append_drop]
  rw [h, List.length_append]

theorem joined_le (ps : List ByteArray) (k : Nat) : (joined (ps.take k)).length ≤ (joined ps).length := by
  rw [joined_split ps k]; omega

theorem line_calls (B b d a : Nat) (t : Sp.Bs) (ps : List ByteArray) (cap : Nat) (w : World) (h : PrAt B b d t w) (hp : PartsAt a ps w) (hab : a ≠ b) (hn : ps.length ≤ 4) (hlen : t.length + (Sp.pad d ++ joined ps ++ [10]).length ≤ 100000000) (hBw : B ≤ w.heap.size) :
    Calls Tryz.prog 123 #[.pointer (some ⟨b, 0, none⟩), .slice (some ⟨a, 0, none⟩) ps.length cap] w fun e w' => e = .returned (.tuple #[]) ∧ PrAt B b d (t ++ (Sp.pad d ++ joined ps ++ [10])) w' ∧ PKeep B b w w' := by
  have c2 := h.depth
  simp only [List.length_append, List.length_cons, List.length_nil] at hlen
  have hd : d ≤ 100000000 := by
    have : (Sp.pad d).length = 2 * d := by simp [Sp.pad]
    omega
  have hpl : ∀ k, k ≤ d → (Sp.pad k).length ≤ (Sp.pad d).length := fun k hk => by unfold Sp.pad; simp; omega
  go_enter Tryz.func123, Tryz.ntmps123
  go_wp2_with fail
  go_loopw [10] (fun i wr => ∃ k : Nat, k ≤ d ∧ i = .int .i64 k ∧ Hid (PrAt B b d (t ++ Sp.pad k) wr ∧ PKeep B b w wr)) (fun i _ => d - (intOf i).toNat)
  case atStart => exact ⟨0, Nat.zero_le _, rfl, by simpa [Sp.pad] using h, PKeep.refl _ _ _⟩
  case round =>
    obtain ⟨k, hk, rfl, hr⟩ := hrel
    by_cases hlt : k < d
    · have hplk := hpl k hk
      go_wp2_with fail
      refine (writeString_calls B b d (t ++ Sp.pad k) ⟨#[32, 32]⟩ wr hr.out.1 (by simp only [List.length_append]; show _ + 2 ≤ _; omega) (by have := hr.out.2.below.size; omega)).mono ?_
      rintro e w1 ⟨rfl, h1, b1⟩
      have h1' : PrAt B b d (t ++ Sp.pad (k + 1)) w1 := by rw [pad_succ, ← List.append_assoc]; exact h1
      have HR : Hid (PrAt B b d (t ++ Sp.pad (k + 1)) w1 ∧ PKeep B b w w1) := ⟨h1', hr.out.2.trans b1⟩
      clear h1 h1'
      go_wp2_with fail
      exact ⟨⟨k + 1, by omega, by go_num, HR⟩, by simp [intOf]; omega⟩
    · have e : k = d := by omega
      subst e
      go_wp2_with fail
      obtain ⟨wo, hwo⟩ : ∃ wo : World, wo = wr := ⟨_, rfl⟩
      go_loopw [5, 19] (fun _ i wq => ∃ j : Nat, j ≤ ps.length ∧ i = .int .i64 j ∧ Hid (PrAt B b k (t ++ Sp.pad k ++ joined (ps.take j)) wq ∧ PKeep B b w wq)) (fun _ i _ => ps.length - (intOf i).toNat)
      case atStart => exact ⟨0, Nat.zero_le _, rfl, by simpa [joined] using hr.out.1, hr.out.2⟩
      case round =>
        obtain ⟨j, hj, rfl, hq⟩ := hrel
        have hjl := joined_le ps j
        by_cases hjlt : j < ps.length
        · obtain ⟨s, hs⟩ : ∃ s, ps[j]? = some s := ⟨_, List.getElem?_eq_getElem hjlt⟩
          have hjs := joined_succ ps j s hs
          have hjl1 := joined_le ps (j + 1)
          rw [hjs, List.length_append] at hjl1
          have hcs : wr.cell? ⟨a, j, none⟩ = some (.string s) := (hp.keep hq.out.2 hab).cell hs
          have hsl : s.data.toList.length = s.size := by simp
          clear hs
          go_wp2_with fail
          refine (writeString_calls B b k (t ++ Sp.pad k ++ joined (ps.take j)) s wr hq.out.1 (by simp only [List.length_append]; omega) (by have := hq.out.2.below.size; omega)).mono ?_
          rintro e w1 ⟨rfl, h1, b1⟩
          have h1' : PrAt B b k (t ++ Sp.pad k ++ joined (ps.take (j + 1))) w1 := by rw [hjs, ← List.append_assoc]; exact h1
          have HR : Hid (PrAt B b k (t ++ Sp.pad k ++ joined (ps.take (j + 1))) w1 ∧ PKeep B b w w1) := ⟨h1', hq.out.2.trans b1⟩
          clear h1 h1' hjs
          go_wp2_with fail
          exact ⟨⟨j + 1, by omega, by go_num, HR⟩, by simp [intOf]; omega⟩
        · have hlast : Hid (PrAt B b k (t ++ Sp.pad k ++ joined ps) wr) := by
            unfold Hid
            have := hq.out.1
            rwa [List.take_of_length_le (by omega)] at this
          go_wp2_with fail
          refine (writeString_calls B b k (t ++ Sp.pad k ++ joined ps) ⟨#[10]⟩ wr hlast.out (by simp only [List.length_append]; show _ + 1 ≤ _; omega) (by have := hq.out.2.below.size; omega)).mono ?_
          rintro e w1 ⟨rfl, h1, b1⟩
          have HR : Hid (PrAt B b k (t ++ (Sp.pad k ++ joined ps ++ [10])) w1) := by
            unfold Hid
            have : t ++ (Sp.pad k ++ joined ps ++ [10]) = t ++ Sp.pad k ++ joined ps ++ [10] := by simp
            rw [this]; exact h1
          clear h1
          go_wp2_with fail
          go_end0
          exact ⟨rfl, HR.out, hq.out.2.trans b1⟩

end Go.Proofs.YtiopfihjmkfdmaaGreatDoor
