import Derived.Test.YtiopfihjmkfdmaaGreatDoorS11
import Derived.Lib.Builder
import Derived.Lib.AppendStr
import Derived.Lib.UnsafeStr
import Derived.Laws.Externs
import Derived.Test.YtiopfihjmkfdmaaGreatDoorS12
namespace Go.Proofs.YtiopfihjmkfdmaaGreatDoor
open Go.RowKit
set_option maxRecDepth 100000
set_option maxHeartbeats 1000000
def PrAt (B b d : Nat) (t : Sp.Bs) (w : World) : Prop :=
 ∃ p v, w.heap[b]? = some (.cells #[p, v, .int .i64 (d : Nat)] 155) ∧ (p = .pointer none ∨ p = .pointer (some ⟨b, 0, none⟩)) ∧ w.ownsRow B 5 1 v t.length (Lib.byteCells t) ∧ v.ownBlock ≠ some b ∧ B ≤ b
theorem PrAt.lt {B b d : Nat} {t : Sp.Bs} {w : World} (h : PrAt B b d t w) : B ≤ b ∧ b < w.heap.size := by
 obtain ⟨p, v, hb, _, _, _, hB⟩ := h
 exact ⟨hB, heap_lt hb⟩
theorem infoBuilder : (Tryz.prog.info? 153).map (·.size) = some 2 := by kernel_rfl
theorem infoByte : (Tryz.prog.info? 5).map (fun i => (i.zero, i.size, i.bytes)) = some (some (.int .u8 0), 1, 1) := by kernel_rfl
theorem liesBuilder : liesAt Tryz.prog Tryz.prog.depth 155 (3 / Tryz.prog.cellsOf 155) 0 153 1 = true := by kernel_rfl
theorem cellsByte : Tryz.prog.cellsOf 5 = 1 := by kernel_rfl
theorem copyCheck_used (b : Nat) (w : World) (h0 : w.cell? ⟨b, 0, none⟩ = some (.pointer (some ⟨b, 0, none⟩))) :
  Calls Tryz.prog 208 #[.pointer (some ⟨b, 0, none⟩)] w fun e w' => e = .returned (.tuple #[]) ∧ w' = w := by
 obtain ⟨j, hj, _⟩ := Option.map_eq_some_iff.1 infoBuilder
 go_enter Tryz.func208, Tryz.ntmps208
 go_wp2
 rw [Lib.run_neq_ptr_same w _ Tryz.underlying150 hj]
 go_wp2
 go_end0
 exact ⟨rfl, rfl⟩
theorem copyCheck_fresh (b : Nat) (v d : Value) (w : World) (hbk : w.heap[b]? = some (.cells #[.pointer none, v, d] 155)) :
  Calls Tryz.prog 208 #[.pointer (some ⟨b, 0, none⟩)] w fun e w' => e = .returned (.tuple #[]) ∧ w' = w.setCell ⟨b, 0, none⟩ (.pointer (some ⟨b, 0, none⟩)) := by
 obtain ⟨j, hj, hjs⟩ := Option.map_eq_some_iff.1 infoBuilder
 have h0 := cell_of hbk 0 (v := .pointer none) rfl
 have hfz := frozen_of hbk 0
 have hsh : w.shape? b = some (155, 3) := by simp [World.shape?, hbk]
 clear hbk
 go_enter Tryz.func208, Tryz.ntmps208
 go_wp2
 rw [Lib.run_to_unsafe w ⟨b, 0, none⟩ Tryz.underlying150 Tryz.underlying158 hj (by rw [hjs]; decide) hsh (Nat.zero_lt_succ 2)]
 simp only [Result.andThen]
 rw [Oper.upon_value]
 go_wp2
 rw [run_callFunc_extern Tryz.func236 (by kernel_rfl) (by kernel_rfl) (by kernel_rfl) (e := Extern.AbiNoEscape.same) (by kernel_rfl)]
 rw [Lib.run_noEscape]
 simp only [Result.andThen]
 rw [Oper.upon_value]
 go_wp2
 rw [Lib.run_from_unsafe w ⟨b, 0, none⟩ Tryz.underlying158 Tryz.underlying150 hj hsh liesBuilder]
 simp only [Result.andThen]
 rw [Oper.upon_value]
 go_wp2
 go_end0
 exact ⟨rfl, rfl⟩
structure PKeep (B b : Nat) (w w' : World) : Prop where
 below : Below B w w'
 others : ∀ k, k < w.heap.size → k ≠ b → (∀ c fz, w.heap[k]? ≠ some (.cells c 5 fz)) → w'.heap[k]? = w.heap[k]?
theorem PKeep.refl (B b : Nat) (w : World) : PKeep B b w w := ⟨Below.refl _ _, fun _ _ _ _ => rfl⟩
theorem PKeep.trans {B b : Nat} {w1 w2 w3 : World} (h : PKeep B b w1 w2) (k : PKeep B b w2 w3) : PKeep B b w1 w3 :=
 ⟨h.below.trans k.below, fun i hi hb hn => by
  have e := h.others i hi hb hn
  rw [k.others i (Nat.lt_of_lt_of_le hi h.below.size) hb (by rw [e]; exact hn), e]⟩
theorem PKeep.of_below {B b : Nat} {w w' : World} (h : Below w.heap.size w w') (hB : B ≤ w.heap.size) : PKeep B b w w' :=
 ⟨h.mono hB, fun k hk _ _ => h.block k hk⟩
theorem PKeep.alloc {B b : Nat} {w w' : World} (h : PKeep B b w w') (hB : B ≤ w.heap.size) (o : Obj) : PKeep B b w (w'.alloc o) := by
 have hs := h.below.size
 exact ⟨h.below.alloc (by omega) o, fun k hk hb hn => by rw [Below.heap_alloc _ _ _ (by omega)]; exact h.others k hk hb hn⟩
theorem PKeep.cell {B b : Nat} {w w' : World} (h : PKeep B b w w') {k : Nat} {c : Array Value} {e : TypeId} {fz : Nat × Nat} (hk : w.heap[k]? = some (.cells c e fz)) (hb : k ≠ b) (he : e ≠ 5) : w'.heap[k]? = some (.cells c e fz) := by
 rw [h.others k (heap_lt hk) hb (fun c' fz' e' => by rw [hk] at e'; cases e'; exact he rfl)]; exact hk
def PrUsed (B b d : Nat) (t : Sp.Bs) (w : World) : Prop :=
 ∃ v, w.heap[b]? = some (.cells #[.pointer (some ⟨b, 0, none⟩), v, .int .i64 (d : Nat)] 155) ∧ w.ownsRow B 5 1 v t.length (Lib.byteCells t) ∧ v.ownBlock ≠ some b ∧ B ≤ b
theorem PrUsed.at {B b d : Nat} {t : Sp.Bs} {w : World} (h : PrUsed B b d t w) : PrAt B b d t w := by
 obtain ⟨v, h1, h2, h3, h4⟩ := h
 exact ⟨_, v, h1, .inr rfl, h2, h3, h4⟩
theorem ownsRow_setCell_other {w : World} {base n : Nat} {e : TypeId} {v : Value} {xs : List Value} (h : w.ownsRow base e 1 v n xs) {a : Addr} (ha : v.ownBlock ≠ some a.block) (u : Value) : (w.setCell a u).ownsRow base e 1 v n xs := by
 obtain ⟨h1, h2⟩ := h
 refine ⟨h1, ?_⟩
 rcases h2 with h2 | ⟨g, cap, cur, rfl, hg, hh, r⟩
 ·exact .inl h2
 ·refine .inr ⟨g, cap, cur, rfl, hg, ?_, r⟩
  rw [Below.heap_setCell _ _ _ _ (fun e => ha (by simp [Value.ownBlock, e]))]
  exact hh
theorem copyCheck_calls (B b d : Nat) (t : Sp.Bs) (w : World) (h : PrAt B b d t w) :
  Calls Tryz.prog 208 #[.pointer (some ⟨b, 0, none⟩)] w fun e w' => e = .returned (.tuple #[]) ∧ PrUsed B b d t w' ∧ PKeep B b w w' := by
 obtain ⟨p, v, hb, hp, ho, hne, hB⟩ := h
 rcases hp with rfl | rfl
 ·refine (copyCheck_fresh b v _ w hb).mono ?_
  rintro e w' ⟨rfl, rfl⟩
  refine ⟨rfl, ⟨v, ?_, ownsRow_setCell_other ho (a := ⟨b, 0, none⟩) hne _, hne, hB⟩, (Below.refl _ _).setCell (p := ⟨b, 0, none⟩) hB _, fun k _ hk _ => Below.heap_setCell _ _ _ _ hk⟩
  rw [heap_setCell_at hb 0 (.pointer (some ⟨b, 0, none⟩))]
  rfl
 ·refine (copyCheck_used b w (cell_of hb 0 rfl)).mono ?_
  rintro e w' ⟨rfl, rfl⟩
  exact ⟨rfl, ⟨v, hb, ho, hne, hB⟩, PKeep.refl _ _ _⟩
theorem byteCells_append (t : Sp.Bs) (s : ByteArray) : Lib.byteCells t ++ Lib.strCells s = Lib.byteCells (t ++ s.data.toList) := by
 simp [Lib.byteCells, Lib.strCells]
theorem writeString_calls (B b d : Nat) (t : Sp.Bs) (s : ByteArray) (w : World) (h : PrAt B b d t w) (hlen : t.length + s.size ≤ 140737488355328) (hBw : B ≤ w.heap.size) :
  Calls Tryz.prog 169 #[.pointer (some ⟨b, 0, none⟩), .string s] w fun e w' => e = .returned (.tuple #[.int .i64 s.size, .nilIface]) ∧ PrAt B b d (t ++ s.data.toList) w' ∧ PKeep B b w w' := by
 obtain ⟨i0, hi, hz0, hz1, hz2⟩ := info_parts infoByte
 go_enter Tryz.func169, Tryz.ntmps169
 go_wp2_with fail
 refine (copyCheck_calls B b d t _ h).mono ?_
 rintro e w1 ⟨rfl, h1, hb1⟩
 obtain ⟨v, hbk, hown, hne, hB⟩ := h1
 have c1 := cell_of hbk 1 (v := v) rfl
 have hbs := hb1.below.size
 go_wp2_with (at_builtin; refine Lib.wpList_append_own_string _ rfl _ _ 151 9 rfl B 5 i0 Tryz.underlying151 Tryz.underlying9 hi hz0 hz1 hz2 _ _ _ rfl hown s rfl ?c3 ?c4 ?c5 ?_)
 case c3 => unfold maxLen; omega
 case c4 => omega
 case c5 => omega
 intro v' w2 hown' hgrow _
 have hlt : b < w1.heap.size := heap_lt hbk
 have hb2 : w2.heap[b]? = some (.cells #[.pointer (some ⟨b, 0, none⟩), v, .int .i64 (d : Nat)] 155) := by
  rw [hgrow.block b hlt (fun e => hne e.symm)]; exact hbk
 have d1 := cell_of hb2 1 (v := v) rfl
 have f1 := frozen_of hb2 1
 obtain ⟨ao, n', cap, rfl⟩ : ∃ ao n' cap, v' = .slice ao n' cap := by
  rcases hown'.2 with ⟨hv, _⟩ | ⟨g, cap, cur, hv, _⟩
  ·exact ⟨_, _, _, hv⟩
  ·exact ⟨_, _, _, hv⟩
 have hne2 : (Value.slice ao n' cap).ownBlock ≠ some b := by
  intro e
  rcases hown'.2 with ⟨hv, _⟩ | ⟨g, cap', cur, hv, _, hg, _⟩
  ·rw [hv] at e; simp [Value.ownBlock] at e
  ·rw [hv] at e
   simp [Value.ownBlock] at e
   subst e
   rw [hb2] at hg
   simp at hg
 have HP : Hid (PrAt B b d (t ++ s.data.toList) (w2.setCell ⟨b, 1, none⟩ (.slice ao n' cap))) := by
  refine ⟨_, .slice ao n' cap, ?_, .inr rfl, ?_, hne2, hB⟩
  ·rw [heap_setCell_at hb2 1 (.slice ao n' cap)]; rfl
  ·have := ownsRow_setCell_other hown' (a := ⟨b, 1, none⟩) hne2 (.slice ao n' cap)
   rw [byteCells_append] at this
   simpa using this
 have hk2 : PKeep B b w1 (w2.setCell ⟨b, 1, none⟩ (.slice ao n' cap)) := by
  refine ⟨((Below.refl B w1).grown hgrow (by omega) (fun k hk => (ownsRow_lt hown k hk).1)).setCell (p := ⟨b, 1, none⟩) hB _, fun k hk hkb hn => ?_⟩
  rw [Below.heap_setCell _ _ _ _ hkb]
  refine hgrow.block k hk (fun e => ?_)
  rcases hown.2 with ⟨hv, _⟩ | ⟨g, cap', cur, hv, _, hg, _⟩
  ·rw [hv] at e; simp [Value.ownBlock] at e
  ·rw [hv] at e
   simp [Value.ownBlock] at e
   subst e
   exact hn _ _ hg
 have HB : Hid (PKeep B b w (w2.setCell ⟨b, 1, none⟩ (.slice ao n' cap))) := hb1.trans hk2
 clear hk2
 clear hown' hgrow hown
 go_wp2
 go_ret2
 exact ⟨rfl, HP.out, HB.out⟩
end Go.Proofs.YtiopfihjmkfdmaaGreatDoor
namespace Go.Proofs.YtiopfihjmkfdmaaGreatDoor
open Go.RowKit
set_option maxRecDepth 100000
set_option maxHeartbeats 400000
def PartsAt (a : Nat) (ps : List ByteArray) (w : World) : Prop := ∃ c, w.heap[a]? = some (.cells c 9) ∧ ∀ (i : Nat) (s : ByteArray), ps[i]? = some s → c[i]? = some (Value.string s)
theorem PartsAt.cell {a : Nat} {ps : List ByteArray} {w : World} (h : PartsAt a ps w) {i : Nat} {s : ByteArray} (hs : ps[i]? = some s) : w.cell? ⟨a, i, none⟩ = some (.string s) := by
 obtain ⟨c, hc, hi⟩ := h
 exact cell_of hc i (hi i s hs)
theorem PartsAt.keep {B b a : Nat} {ps : List ByteArray} {w w' : World} (h : PartsAt a ps w) (k : PKeep B b w w') (hab : a ≠ b) : PartsAt a ps w' := by
 obtain ⟨c, hc, hi⟩ := h
 exact ⟨c, k.cell hc hab (by decide), hi⟩
def joined (ps : List ByteArray) : Sp.Bs := (ps.map fun s => s.data.toList).flatten
theorem PrAt.depth {B b d : Nat} {t : Sp.Bs} {w : World} (h : PrAt B b d t w) : w.cell? ⟨b, 2, none⟩ = some (.int .i64 (d : Nat)) := by
 obtain ⟨p, v, hb, _⟩ := h
 exact cell_of hb 2 rfl
theorem pad_succ (k : Nat) : Sp.pad (k + 1) = Sp.pad k ++ [32, 32] := by
 unfold Sp.pad
 rw [show 2 * (k + 1) = 2 * k + 1 + 1 from by omega, List.replicate_succ', List.replicate_succ']
 simp
theorem joined_succ (ps : List ByteArray) (k : Nat) (s : ByteArray) (h : ps[k]? = some s) : joined (ps.take (k + 1)) = joined (ps.take k) ++ s.data.toList := by
 unfold joined
 have hk := (List.getElem?_eq_some_iff.1 h)
 rw [List.take_succ_eq_append_getElem hk.1, hk.2]
 simp
theorem joined_split (ps : List ByteArray) (k : Nat) : (joined ps).length = (joined (ps.take k)).length + (joined (ps.drop k)).length := by
 have h : joined ps = joined (ps.take k) ++ joined (ps.drop k) := by
  unfold joined
  rw [← List.flatten_append, ← List.map_append, List.take_append_drop]
 rw [h, List.length_append]
theorem joined_le (ps : List ByteArray) (k : Nat) : (joined (ps.take k)).length ≤ (joined ps).length := by
 rw [joined_split ps k]; omega
theorem line_calls (B b d a : Nat) (t : Sp.Bs) (ps : List ByteArray) (cap : Nat) (w : World) (h : PrAt B b d t w) (hp : PartsAt a ps w) (hab : a ≠ b) (hn : ps.length ≤ 4) (hlen : t.length + (Sp.pad d ++ joined ps ++ [10]).length ≤ 100000000) (hBw : B ≤ w.heap.size) :
  Calls Tryz.prog 123 #[.pointer (some ⟨b, 0, none⟩), .slice (some ⟨a, 0, none⟩) ps.length cap] w fun e w' => e = .returned (.tuple #[]) ∧ PrAt B b d (t ++ (Sp.pad d ++ joined ps ++ [10])) w' ∧ PKeep B b w w' := by
 have c2 := h.depth
 simp only [List.length_append, List.length_cons, List.length_nil] at hlen
 have hd : d ≤ 100000000 := by
  have : (Sp.pad d).length = 2 * d := by simp [Sp.pad]
  omega
 have hpl : ∀ k, k ≤ d → (Sp.pad k).length ≤ (Sp.pad d).length := fun k hk => by unfold Sp.pad; simp; omega
 go_enter Tryz.func123, Tryz.ntmps123
 go_wp2_with fail
 go_loopw [10] (fun i wr => ∃ k : Nat, k ≤ d ∧ i = .int .i64 k ∧ Hid (PrAt B b d (t ++ Sp.pad k) wr ∧ PKeep B b w wr)) (fun i _ => d - (intOf i).toNat)
 case atStart => exact ⟨0, Nat.zero_le _, rfl, by simpa [Sp.pad] using h, PKeep.refl _ _ _⟩
 case round =>
  obtain ⟨k, hk, rfl, hr⟩ := hrel
  by_cases hlt : k < d
  ·have hplk := hpl k hk
   go_wp2_with fail
   refine (writeString_calls B b d (t ++ Sp.pad k) ⟨#[32, 32]⟩ wr hr.out.1 (by simp only [List.length_append]; show _ + 2 ≤ _; omega) (by have := hr.out.2.below.size; omega)).mono ?_
   rintro e w1 ⟨rfl, h1, b1⟩
   have h1' : PrAt B b d (t ++ Sp.pad (k + 1)) w1 := by rw [pad_succ, ← List.append_assoc]; exact h1
   have HR : Hid (PrAt B b d (t ++ Sp.pad (k + 1)) w1 ∧ PKeep B b w w1) := ⟨h1', hr.out.2.trans b1⟩
   clear h1 h1'
   go_wp2_with fail
   exact ⟨⟨k + 1, by omega, by go_num, HR⟩, by simp [intOf]; omega⟩
  ·have e : k = d := by omega
   subst e
   go_wp2_with fail
   obtain ⟨wo, hwo⟩ : ∃ wo : World, wo = wr := ⟨_, rfl⟩
   go_loopw [5, 19] (fun _ i wq => ∃ j : Nat, j ≤ ps.length ∧ i = .int .i64 j ∧ Hid (PrAt B b k (t ++ Sp.pad k ++ joined (ps.take j)) wq ∧ PKeep B b w wq)) (fun _ i _ => ps.length - (intOf i).toNat)
   case atStart => exact ⟨0, Nat.zero_le _, rfl, by simpa [joined] using hr.out.1, hr.out.2⟩
   case round =>
    obtain ⟨j, hj, rfl, hq⟩ := hrel
    have hjl := joined_le ps j
    by_cases hjlt : j < ps.length
    ·obtain ⟨s, hs⟩ : ∃ s, ps[j]? = some s := ⟨_, List.getElem?_eq_getElem hjlt⟩
     have hjs := joined_succ ps j s hs
     have hjl1 := joined_le ps (j + 1)
     rw [hjs, List.length_append] at hjl1
     have hcs : wr.cell? ⟨a, j, none⟩ = some (.string s) := (hp.keep hq.out.2 hab).cell hs
     have hsl : s.data.toList.length = s.size := by simp
     clear hs
     go_wp2_with fail
     refine (writeString_calls B b k (t ++ Sp.pad k ++ joined (ps.take j)) s wr hq.out.1 (by simp only [List.length_append]; omega) (by have := hq.out.2.below.size; omega)).mono ?_
     rintro e w1 ⟨rfl, h1, b1⟩
     have h1' : PrAt B b k (t ++ Sp.pad k ++ joined (ps.take (j + 1))) w1 := by rw [hjs, ← List.append_assoc]; exact h1
     have HR : Hid (PrAt B b k (t ++ Sp.pad k ++ joined (ps.take (j + 1))) w1 ∧ PKeep B b w w1) := ⟨h1', hq.out.2.trans b1⟩
     clear h1 h1' hjs
     go_wp2_with fail
     exact ⟨⟨j + 1, by omega, by go_num, HR⟩, by simp [intOf]; omega⟩
    ·have hlast : Hid (PrAt B b k (t ++ Sp.pad k ++ joined ps) wr) := by
      unfold Hid
      have := hq.out.1
      rwa [List.take_of_length_le (by omega)] at this
     go_wp2_with fail
     refine (writeString_calls B b k (t ++ Sp.pad k ++ joined ps) ⟨#[10]⟩ wr hlast.out (by simp only [List.length_append]; show _ + 1 ≤ _; omega) (by have := hq.out.2.below.size; omega)).mono ?_
     rintro e w1 ⟨rfl, h1, b1⟩
     have HR : Hid (PrAt B b k (t ++ (Sp.pad k ++ joined ps ++ [10])) w1) := by
      unfold Hid
      have : t ++ (Sp.pad k ++ joined ps ++ [10]) = t ++ Sp.pad k ++ joined ps ++ [10] := by simp
      rw [this]; exact h1
     clear h1
     go_wp2_with fail
     go_end0
     exact ⟨rfl, HR.out, hq.out.2.trans b1⟩
end Go.Proofs.YtiopfihjmkfdmaaGreatDoor
namespace Go.Proofs.YtiopfihjmkfdmaaGreatDoor
open Go.RowKit
set_option maxRecDepth 100000
set_option maxHeartbeats 2000000
def StSays (lo hi : Nat) (w : World) (v : Value) (f : Nat → Sp.Bs) : Prop :=
 ∀ (w' : World) (B b d : Nat) (t : Sp.Bs), SameOn lo hi w w' → hi ≤ B → B ≤ w'.heap.size → 11 ≤ B → Laid w' → PrAt B b d t w' → t.length + (f d).length ≤ 2000000 →
  Calls Tryz.prog 91 #[.pointer (some ⟨b, 0, none⟩), v] w' fun e w'' => e = .returned (.tuple #[]) ∧ PrAt B b d (t ++ f d) w'' ∧ PKeep B b w' w''
theorem PrAt.below {B b d : Nat} {t : Sp.Bs} {w w' : World} (h : PrAt B b d t w) (hb : Below w.heap.size w w') : PrAt B b d t w' := by
 obtain ⟨p, v, hbk, hp, ho, hne, hB⟩ := h
 refine ⟨p, v, by rw [hb.block b (heap_lt hbk)]; exact hbk, hp, ?_, hne, hB⟩
 obtain ⟨h1, h2⟩ := ho
 refine ⟨h1, ?_⟩
 rcases h2 with h2 | ⟨g, cap, cur, rfl, hg, hh, r⟩
 ·exact .inl h2
 ·exact .inr ⟨g, cap, cur, rfl, hg, by rw [hb.block g (heap_lt hh)]; exact hh, r⟩
theorem below_alloc (w : World) (o : Obj) : Below w.heap.size w (w.alloc o) := (Below.refl _ _).alloc (Nat.le_refl _) o
theorem parts_new (w : World) (ps : List ByteArray) : PartsAt w.heap.size ps (w.alloc (.cells (ps.map Value.string).toArray 9)) := by
 refine ⟨_, heap_alloc_new _ _, fun i s hs => ?_⟩
 simp [hs]
theorem line_after (B b d a n : Nat) (t : Sp.Bs) (ps : List ByteArray) (W : World) (h : PrAt B b d t W) (ha : a = W.heap.size) (hn : n = ps.length) (h4 : ps.length ≤ 4) (hlen : t.length + (Sp.pad d ++ joined ps ++ [10]).length ≤ 100000000) (hBw : B ≤ W.heap.size) :
  Calls Tryz.prog 123 #[.pointer (some ⟨b, 0, none⟩), .slice (some ⟨a, 0, none⟩) n n] (W.alloc (.cells (ps.map Value.string).toArray 9)) fun e w' => e = .returned (.tuple #[]) ∧ PrAt B b d (t ++ (Sp.pad d ++ joined ps ++ [10])) w' ∧ PKeep B b W w' := by
 subst ha hn
 have hlt := h.lt
 have hp := h.below (below_alloc W (.cells (ps.map Value.string).toArray 9))
 refine (line_calls B b d W.heap.size t ps ps.length _ hp (parts_new W ps) (by omega) h4 hlen (by simp; omega)).mono ?_
 rintro e w' ⟨rfl, h1, k1⟩
 exact ⟨rfl, h1, (PKeep.of_below (below_alloc W _) hBw).trans k1⟩
theorem read_says (p : Int) (lo hi : Nat) (w : World) (k : Nat) (hk : k < 8) : StSays lo hi w (.iface 283 (.agg #[.int .i64 p, .int .i64 (k : Nat)])) (Sp.Pr.read k) := by
 intro w' B b d t _ _ hBw h9 hL hP hlen
 have h1 := ts_2_1 (.agg #[.int .i64 p, .int .i64 (k : Nat)])
 have h2 := ts_2_2 (.agg #[.int .i64 p, .int .i64 (k : Nat)])
 have e : Sp.Pr.read k d = Sp.pad d ++ joined [⟨#[114, 101, 97, 100, 32]⟩, ⟨(Sp.letter k).toArray⟩, ⟨#[59]⟩] ++ [10] := by
  show Sp.pad d ++ [114, 101, 97, 100, 32] ++ Sp.letter k ++ [59, 10] = _
  simp [joined]
 rw [e] at hlen ⊢
 have hc : Calls Tryz.prog 123 #[.pointer (some ⟨b, 0, none⟩), .slice (some ⟨w'.heap.size + 1, 0, none⟩) 3 3] ((w'.alloc (.cells #[.int .i64 p, .int .i64 (k : Nat)] 283)).alloc (.cells #[.string ⟨#[114, 101, 97, 100, 32]⟩, .string ⟨(Sp.letter k).toArray⟩, .string ⟨#[59]⟩] 9)) _ :=
  line_after B b d (w'.heap.size + 1) 3 t [⟨#[114, 101, 97, 100, 32]⟩, ⟨(Sp.letter k).toArray⟩, ⟨#[59]⟩] (w'.alloc (.cells #[.int .i64 p, .int .i64 (k : Nat)] 283)) (hP.below (below_alloc _ _)) (by simp) rfl (by simp) (by omega) (by simp; omega)
 go_enter Tryz.func91, Tryz.ntmps91
 go_wp2_with fail
 refine (text_calls k hk _).mono ?_
 rintro e w1 ⟨rfl, rfl⟩
 go_wp2_with fail
 refine hc.mono ?_
 rintro e w2 ⟨rfl, h2, k2⟩
 go_wp2_with fail
 go_end0
 exact ⟨rfl, h2, (PKeep.of_below (below_alloc _ _) hBw).trans k2⟩
theorem assert_says (p q : Int) (lo hi : Nat) (w : World) (k : Nat) (hk : k < 6) (tl : TypeId) (ul : Value) (tr : TypeId) (ur : Value) (x y : Nat × Sp.Bs) (hx : SumSays (.iface tl ul) x.2) (hy : SumSays (.iface tr ur) y.2) :
  StSays lo hi w (.iface 287 (.agg #[.int .i64 p, .int .i64 q, .int .i64 (k : Nat), .iface tl ul, .iface tr ur])) (Sp.Pr.assert k x y) := by
 intro w' B b d t _ _ hBw h9 hL hP hlen
 have h1 := ts_3_1 (.agg #[.int .i64 p, .int .i64 q, .int .i64 (k : Nat), .iface tl ul, .iface tr ur])
 have h2 := ts_3_2 (.agg #[.int .i64 p, .int .i64 q, .int .i64 (k : Nat), .iface tl ul, .iface tr ur])
 have h3 := ts_3_3 (.agg #[.int .i64 p, .int .i64 q, .int .i64 (k : Nat), .iface tl ul, .iface tr ur])
 have e : Sp.Pr.assert k x y d = Sp.pad d ++ joined [⟨#[97, 115, 115, 101, 114, 116, 32]⟩, ⟨(Sp.condText k x y).toArray⟩, ⟨#[59]⟩] ++ [10] := by
  show Sp.pad d ++ [97, 115, 115, 101, 114, 116, 32] ++ Sp.condText k x y ++ [59, 10] = _
  simp [joined]
 rw [e] at hlen ⊢
 have hct : (Sp.condText k x y).length ≤ 2000000 := by
  have : (joined [⟨#[97, 115, 115, 101, 114, 116, 32]⟩, ⟨(Sp.condText k x y).toArray⟩, ⟨#[59]⟩]).length = 7 + (Sp.condText k x y).length + 1 := by simp [joined]; omega
  simp only [List.length_append] at hlen
  omega
 go_enter Tryz.func91, Tryz.ntmps91
 go_wp2_with fail
 refine (cond_says k hk tl ul tr ur x y hx hy hct _ (hL.below (below_alloc _ _) hL.size)).mono ?_
 rintro e w1 ⟨rfl, b1⟩
 go_wp2_with fail
 have hb1 : Below w'.heap.size w' w1 := (below_alloc _ _).trans (b1.mono (by simp))
 refine (line_after B b d w1.heap.size 3 t [⟨#[97, 115, 115, 101, 114, 116, 32]⟩, ⟨(Sp.condText k x y).toArray⟩, ⟨#[59]⟩] w1 (hP.below hb1) rfl rfl (by simp) (by omega) (by have := hb1.size; omega)).mono ?_
 rintro e w2 ⟨rfl, h2, k2⟩
 have K : PKeep B b w' w2 := (PKeep.of_below hb1 hBw).trans k2
 clear b1 hb1 k2
 go_wp2_with fail
 go_end0
 exact ⟨rfl, h2, K⟩
end Go.Proofs.YtiopfihjmkfdmaaGreatDoor
namespace Go.Proofs.YtiopfihjmkfdmaaGreatDoor
open Go.RowKit
set_option maxRecDepth 100000
set_option maxHeartbeats 2000000
def StsSays (lo hi : Nat) (w : World) (v : Value) (xs : List (Nat → Sp.Bs)) : Prop :=
 ∀ (w' : World) (B b d : Nat) (t : Sp.Bs), SameOn lo hi w w' → hi ≤ B → B ≤ w'.heap.size → 11 ≤ B → Laid w' → PrAt B b d t w' → t.length + (Sp.lines d xs).length ≤ 2000000 →
  Calls Tryz.prog 59 #[.pointer (some ⟨b, 0, none⟩), v] w' fun e w'' => e = .returned (.tuple #[]) ∧ PrAt B b d (t ++ Sp.lines d xs) w'' ∧ PKeep B b w' w''
theorem lines_succ (d : Nat) (xs : List (Nat → Sp.Bs)) (j : Nat) (x : Nat → Sp.Bs) (h : xs[j]? = some x) : Sp.lines d (xs.take (j + 1)) = Sp.lines d (xs.take j) ++ x d := by
 unfold Sp.lines
 have hk := List.getElem?_eq_some_iff.1 h
 rw [List.take_succ_eq_append_getElem hk.1, hk.2]
 simp
theorem lines_le (d : Nat) (xs : List (Nat → Sp.Bs)) (j : Nat) : (Sp.lines d (xs.take j)).length ≤ (Sp.lines d xs).length := by
 have h : Sp.lines d xs = Sp.lines d (xs.take j) ++ Sp.lines d (xs.drop j) := by
  unfold Sp.lines
  rw [← List.flatten_append, ← List.map_append, List.take_append_drop]
 rw [h, List.length_append]; omega
theorem SameOn.keep {B b lo hi : Nat} {w w1 w2 : World} (h : SameOn lo hi w w1) (k : PKeep B b w1 w2) (hh : hi ≤ B) : SameOn lo hi w w2 :=
 fun i h1 h2 hn => by rw [k.below.block i (by omega)]; exact h i h1 h2 hn
theorem statements_none (lo hi : Nat) (w : World) : StsSays lo hi w (.slice none 0 0) [] := by
 intro w' B b d t _ _ hBw h9 hL hP hlen
 go_enter Tryz.func59, Tryz.ntmps59
 go_wp2_with fail
 refine wp_loop_rounds 1 ?_
 rw [rounds_succ]
 go_wp2_with fail
 go_end0
 exact ⟨rfl, by simpa [Sp.lines] using hP, PKeep.refl _ _ _⟩
theorem statements_says (ct ct' : Int × Int) (lo hi : Nat) (w : World) (v : Value) (xs : List (Nat → Sp.Bs)) (h : Blk (fun _ lo hi w v f _ => StSays lo hi w v f) ct lo hi w v xs ct') : StsSays lo hi w v xs := by
 obtain ⟨vs, _, ho, hg, he, _, _⟩ := h
 have hvl : vs.length = xs.length := by simpa using ho.1
 rcases ho.2 with ⟨rfl, hz⟩ | ⟨g, cap, cur, rfl, hlg, hh, hnc, hcm, hcs, htake⟩
 ·have : xs = [] := List.eq_nil_of_length_eq_zero hz
  subst this
  exact statements_none lo hi w
 ·intro w' B b d t hso hhB hBw h9 hL hP hlen
  have hgl := hg g rfl
  have hcell : ∀ (i : Nat) (u : Value), vs[i]? = some u → w'.cell? ⟨g, i, none⟩ = some u := by
   intro i u hu
   have h1 : w'.heap[g]? = some (.cells cur 234) := by rw [hso g hlg hgl (by rw [hh]; exact not_num (by decide))]; exact hh
   refine cell_of h1 i ?_
   have h2 : i < vs.length := (List.getElem?_eq_some_iff.1 hu).1
   have h3 : cur.toList[i]? = vs[i]? := by
    rw [← htake, List.getElem?_take, if_pos (by omega)]
   rw [← Array.getElem?_toList, h3]; exact hu
  have hn : (xs.length : Int) ≤ 9223372036854775807 := by unfold maxLen at hcm; omega
  clear htake hcs hcm
  go_enter Tryz.func59, Tryz.ntmps59
  go_wp2_with fail
  go_loopw [5, 8] (fun _ i wr => ∃ j : Nat, j ≤ xs.length ∧ i = .int .i64 j ∧ Hid (PrAt B b d (t ++ Sp.lines d (xs.take j)) wr ∧ PKeep B b w' wr)) (fun _ i _ => xs.length - (intOf i).toNat)
  case atStart => exact ⟨0, Nat.zero_le _, rfl, by simpa [Sp.lines] using hP, PKeep.refl _ _ _⟩
  case round =>
   obtain ⟨j, hj, rfl, hq⟩ := hrel
   have hjl := lines_le d xs j
   by_cases hjlt : j < xs.length
   ·obtain ⟨u, hu⟩ : ∃ u, vs[j]? = some u := ⟨_, List.getElem?_eq_getElem (by omega)⟩
    obtain ⟨x, hx⟩ : ∃ x, xs[j]? = some x := ⟨_, List.getElem?_eq_getElem hjlt⟩
    have hls := lines_succ d xs j x hx
    have hjl1 := lines_le d xs (j + 1)
    rw [hls, List.length_append] at hjl1
    have hcu : wr.cell? ⟨g, j, none⟩ = some u := by
     rw [hq.out.2.below.cell (by show g < B; omega)]; exact hcell j u hu
    have hst := he j u x hu hx
    have hc := hst wr B b d (t ++ Sp.lines d (xs.take j)) (hso.keep hq.out.2 hhB) hhB (by have := hq.out.2.below.size; omega) h9 (hL.below hq.out.2.below h9) hq.out.1 (by simp only [List.length_append]; omega)
    clear hst hu hx
    go_wp2_with fail
    refine hc.mono ?_
    rintro e w1 ⟨rfl, h1, b1⟩
    have HR : Hid (PrAt B b d (t ++ Sp.lines d (xs.take (j + 1))) w1 ∧ PKeep B b w' w1) := ⟨by rw [hls, ← List.append_assoc]; exact h1, hq.out.2.trans b1⟩
    clear h1 hls hc b1
    go_wp2_with fail
    exact ⟨⟨j + 1, by omega, by go_num, HR⟩, by simp [intOf]; omega⟩
   ·have hlast : Hid (PrAt B b d (t ++ Sp.lines d xs) wr) := by
     unfold Hid
     have := hq.out.1
     rwa [List.take_of_length_le (by omega)] at this
    go_wp2_with fail
    go_end0
    exact ⟨rfl, hlast.out, hq.out.2⟩
theorem prAt_depth {B b d : Nat} {t : Sp.Bs} {w : World} (h : PrAt B b d t w) (d' : Nat) (di : Int) (hd : di = d') : PrAt B b d' t (w.setCell ⟨b, 2, none⟩ (.int .i64 di)) ∧ PKeep B b w (w.setCell ⟨b, 2, none⟩ (.int .i64 di)) := by
 subst hd
 obtain ⟨p, v, hbk, hp, ho, hne, hB⟩ := h
 refine ⟨⟨p, v, ?_, hp, ownsRow_setCell_other ho (a := ⟨b, 2, none⟩) hne _, hne, hB⟩, (Below.refl _ _).setCell (p := ⟨b, 2, none⟩) hB _, fun k _ hk _ => Below.heap_setCell _ _ _ _ hk⟩
 rw [heap_setCell_at hbk 2 (.int .i64 d')]
 rfl
theorem PrAt.fz {B b d : Nat} {t : Sp.Bs} {w : World} (h : PrAt B b d t w) : w.frozen? ⟨b, 2, none⟩ = false := by
 obtain ⟨p, v, hb, _⟩ := h
 exact frozen_of hb 2
theorem inner_says (lo hi : Nat) (w : World) (v : Value) (xs : List (Nat → Sp.Bs)) (h : StsSays lo hi w v xs) (w' : World) (B b d : Nat) (t : Sp.Bs) (hso : SameOn lo hi w w') (hhB : hi ≤ B) (hBw : B ≤ w'.heap.size) (h9 : 11 ≤ B) (hL : Laid w') (hP : PrAt B b d t w') (hlen : t.length + (Sp.lines (d + 1) xs).length ≤ 2000000) (hd : d ≤ 2000000) :
  Calls Tryz.prog 128 #[.pointer (some ⟨b, 0, none⟩), v] w' fun e w'' => e = .returned (.tuple #[]) ∧ PrAt B b d (t ++ Sp.lines (d + 1) xs) w'' ∧ PKeep B b w' w'' := by
 have c2 := hP.depth
 have f2 := hP.fz
 obtain ⟨hp1, k1⟩ := prAt_depth hP (d + 1) ((d : Int) + 1) (by omega)
 have hc := h _ B b (d + 1) t (hso.keep k1 hhB) hhB (by simp [World.setCell]; exact hBw) h9 (hL.below k1.below h9) hp1 hlen
 clear hp1
 go_enter Tryz.func128, Tryz.ntmps128
 go_wp2_with fail
 refine hc.mono ?_
 rintro e w1 ⟨rfl, h1, b1⟩
 have c3 : w1.cell? ⟨b, 2, none⟩ = some (.int .i64 ((d : Int) + 1)) := h1.depth
 have f3 := h1.fz
 have hp2 := prAt_depth h1 d (d : Int) rfl
 have HP : Hid (PrAt B b d (t ++ Sp.lines (d + 1) xs) (w1.setCell ⟨b, 2, none⟩ (.int .i64 (d : Int))) ∧ PKeep B b w' (w1.setCell ⟨b, 2, none⟩ (.int .i64 (d : Int)))) := ⟨hp2.1, (k1.trans b1).trans hp2.2⟩
 clear hp2 hc
 go_wp2_with fail
 go_end0
 exact ⟨rfl, HP.out.1, HP.out.2⟩
end Go.Proofs.YtiopfihjmkfdmaaGreatDoor
namespace Go.Proofs.YtiopfihjmkfdmaaGreatDoor
open Go.RowKit
set_option maxRecDepth 100000
set_option maxHeartbeats 2000000
theorem pad_length (d : Nat) : (Sp.pad d).length = 2 * d := by simp [Sp.pad]
theorem while_says (p : Int) (lo hi : Nat) (w : World) (k : Nat) (hk : k < 6) (tl : TypeId) (ul : Value) (tr : TypeId) (ur : Value) (x y : Nat × Sp.Bs) (hx : SumSays (.iface tl ul) x.2) (hy : SumSays (.iface tr ur) y.2) (av : Option Addr) (nv cv : Nat) (xs : List (Nat → Sp.Bs)) (hb : StsSays lo hi w (.slice av nv cv) xs) :
  StSays lo hi w (.iface 293 (.agg #[.int .i64 p, .int .i64 (k : Nat), .iface tl ul, .iface tr ur, .slice av nv cv])) (Sp.Pr.loop k x y xs) := by
 intro w' B b d t hso hhB hBw h9 hL hP hlen
 have h1 := ts_5_1 (.agg #[.int .i64 p, .int .i64 (k : Nat), .iface tl ul, .iface tr ur, .slice av nv cv])
 have h2 := ts_5_2 (.agg #[.int .i64 p, .int .i64 (k : Nat), .iface tl ul, .iface tr ur, .slice av nv cv])
 have h3 := ts_5_3 (.agg #[.int .i64 p, .int .i64 (k : Nat), .iface tl ul, .iface tr ur, .slice av nv cv])
 have h4 := ts_5_4 (.agg #[.int .i64 p, .int .i64 (k : Nat), .iface tl ul, .iface tr ur, .slice av nv cv])
 have h5 := ts_5_5 (.agg #[.int .i64 p, .int .i64 (k : Nat), .iface tl ul, .iface tr ur, .slice av nv cv])
 have e : Sp.Pr.loop k x y xs d = (Sp.pad d ++ joined [⟨#[119, 104, 105, 108, 101, 32]⟩, ⟨(Sp.condText k x y).toArray⟩, ⟨#[32, 123]⟩] ++ [10]) ++ Sp.lines (d + 1) xs ++ (Sp.pad d ++ joined [⟨#[125]⟩] ++ [10]) := by
  show Sp.pad d ++ [119, 104, 105, 108, 101, 32] ++ Sp.condText k x y ++ [32, 123, 10] ++ Sp.lines (d + 1) xs ++ Sp.pad d ++ [125, 10] = _
  simp [joined]
 rw [e] at hlen ⊢
 have hj : (joined [⟨#[119, 104, 105, 108, 101, 32]⟩, ⟨(Sp.condText k x y).toArray⟩, ⟨#[32, 123]⟩]).length = 6 + (Sp.condText k x y).length + 2 := by simp [joined]; omega
 have hj1 : (joined [⟨#[125]⟩]).length = 1 := by simp [joined]
 have hpd := pad_length d
 simp only [List.length_append, List.length_cons, List.length_nil, hj, hj1, hpd] at hlen
 have hct : (Sp.condText k x y).length ≤ 2000000 := by omega
 have hW := below_alloc w' (.cells #[.int .i64 p, .int .i64 (k : Nat), .iface tl ul, .iface tr ur, .slice av nv cv] 293)
 have hnb := heap_alloc_new w' (.cells #[.int .i64 p, .int .i64 (k : Nat), .iface tl ul, .iface tr ur, .slice av nv cv] 293)
 have hNb : w'.heap.size ≠ b := by have := hP.lt; omega
 have HN : Hid (_ = _) := hnb
 clear hnb
 go_enter Tryz.func91, Tryz.ntmps91
 go_wp2_with fail
 refine (cond_says k hk tl ul tr ur x y hx hy hct _ (hL.below hW hL.size)).mono ?_
 rintro e w1 ⟨rfl, b1⟩
 have hb1 : Below w'.heap.size w' w1 := hW.trans (b1.mono (by simp))
 have hs1 := hb1.size
 have n1 : w1.heap[w'.heap.size]? = some (.cells #[.int .i64 p, .int .i64 (k : Nat), .iface tl ul, .iface tr ur, .slice av nv cv] 293) := below_block b1 (by simp) HN.out
 go_wp2_with fail
 refine (line_after B b d w1.heap.size 3 t [⟨#[119, 104, 105, 108, 101, 32]⟩, ⟨(Sp.condText k x y).toArray⟩, ⟨#[32, 123]⟩] w1 (hP.below hb1) rfl rfl (by simp) (by simp only [List.length_append, List.length_cons, List.length_nil, hj, hpd]; omega) (by omega)).mono ?_
 rintro e w2 ⟨rfl, h2', k2⟩
 have n2 := k2.cell n1 hNb (by decide)
 have K2 : PKeep B b w' w2 := (PKeep.of_below hb1 hBw).trans k2
 have c3 := cell_of n2 4 (v := .slice av nv cv) rfl
 have hs2 := K2.below.size
 clear b1 hb1 n1 k2
 go_wp2_with fail
 refine (inner_says lo hi w (.slice av nv cv) xs hb w2 B b d _ (hso.keep K2 hhB) hhB (by omega) h9 (hL.below K2.below h9) h2' (by simp only [List.length_append, List.length_cons, List.length_nil, hj, hpd]; omega) (by omega)).mono ?_
 rintro e w3 ⟨rfl, h3', k3⟩
 have hs3 := k3.below.size
 have K3 : PKeep B b w' w3 := K2.trans k3
 clear h2' k3 n2 c3
 go_wp2_with fail
 refine (line_after B b d w3.heap.size 1 _ [⟨#[125]⟩] w3 h3' rfl rfl (by simp) (by simp only [List.length_append, List.length_cons, List.length_nil, hj, hj1, hpd]; omega) (by omega)).mono ?_
 rintro e w4 ⟨rfl, h4', k4⟩
 have K4 : PKeep B b w' w4 := K3.trans k4
 have HF : Hid (PrAt B b d (t ++ ((Sp.pad d ++ joined [⟨#[119, 104, 105, 108, 101, 32]⟩, ⟨(Sp.condText k x y).toArray⟩, ⟨#[32, 123]⟩] ++ [10]) ++ Sp.lines (d + 1) xs ++ (Sp.pad d ++ joined [⟨#[125]⟩] ++ [10]))) w4) := by
  unfold Hid
  simp only [List.append_assoc] at h4' ⊢
  exact h4'
 clear h3' h4' k4
 go_wp2_with fail
 go_end0
 exact ⟨rfl, HF.out, K4⟩
end Go.Proofs.YtiopfihjmkfdmaaGreatDoor
