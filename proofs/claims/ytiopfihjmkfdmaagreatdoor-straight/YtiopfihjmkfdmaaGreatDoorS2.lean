import Derived.Test.YtiopfihjmkfdmaaGreatDoorS1
import Derived.Maps.AppendAt
import Derived.OwnWalk
import Derived.Deep.RegionLaw
import Derived.Deep.DrawnRows
import Derived.Deep.AppendLies
import Derived.Test.YtiopfihjmkfdmaaGreatDoorSh
import Derived.Lib.IndexAny
namespace Go.Proofs.YtiopfihjmkfdmaaGreatDoor
open Go.RowKit
set_option maxRecDepth 100000
set_option maxHeartbeats 400000
def rnCells (vv : Value) (stop : Int) (st : List Int) (iv : Value) (fuel : Nat) : Array Value :=
 #[vv, .int .i64 stop, .int .i16 (st.getD 0 0), .int .i16 (st.getD 1 0), .int .i16 (st.getD 2 0), .int .i16 (st.getD 3 0), .int .i16 (st.getD 4 0), .int .i16 (st.getD 5 0), .int .i16 (st.getD 6 0), .int .i16 (st.getD 7 0), iv, .int .i64 (fuel : Int)]
def visCell (x : Int × List Int) : List Value := [.int .i64 x.1, .int .i16 (x.2.getD 0 0), .int .i16 (x.2.getD 1 0), .int .i16 (x.2.getD 2 0), .int .i16 (x.2.getD 3 0), .int .i16 (x.2.getD 4 0), .int .i16 (x.2.getD 5 0), .int .i16 (x.2.getD 6 0), .int .i16 (x.2.getD 7 0)]
def visCells (vis : List (Int × List Int)) : List Value := (vis.map visCell).flatten
def InAt (base : Nat) (w : World) (v : Value) (l : List Int) : Prop :=
 (∃ a c, v = .slice a 0 c ∧ l = []) ∨ ∃ g off cap, v = .slice (some ⟨g, off, none⟩) l.length cap ∧ g < base ∧ l.length ≤ cap ∧ ∀ i n, l[i]? = some n → w.cell? ⟨g, off + i, none⟩ = some (.int .i16 n)
def RunAt (base b : Nat) (stop : Int) (r : Sp.Rst) (w : World) : Prop :=
 ∃ vv iv, w.heap[b]? = some (.cells (rnCells vv stop r.st iv r.fuel) 181) ∧ w.ownsRow base 80 9 vv r.vis.length (visCells r.vis) ∧ InAt base w iv r.ins ∧ base ≤ b ∧ r.st.length = 8 ∧ r.vis.length + r.fuel ≤ 500
structure RKeep (base b : Nat) (w w' : World) : Prop where
 below : Below base w w'
 others : ∀ k, k < w.heap.size → k ≠ b → (∀ c fz, w.heap[k]? ≠ some (.cells c 80 fz)) → w'.heap[k]? = w.heap[k]?
theorem below_alloc1 (w : World) (o : Obj) : Below w.heap.size w (w.alloc o) := (Below.refl _ _).alloc (Nat.le_refl _) o
theorem RKeep.refl (B b : Nat) (w : World) : RKeep B b w w := ⟨Below.refl _ _, fun _ _ _ _ => rfl⟩
theorem RKeep.trans {B b : Nat} {w1 w2 w3 : World} (h : RKeep B b w1 w2) (k : RKeep B b w2 w3) : RKeep B b w1 w3 :=
 ⟨h.below.trans k.below, fun i hi hb hn => by
  have e := h.others i hi hb hn
  rw [k.others i (Nat.lt_of_lt_of_le hi h.below.size) hb (by rw [e]; exact hn), e]⟩
theorem RKeep.of_below {B b : Nat} {w w' : World} (h : Below w.heap.size w w') (hB : B ≤ w.heap.size) : RKeep B b w w' :=
 ⟨h.mono hB, fun k hk _ _ => h.block k hk⟩
theorem RKeep.alloc {B b : Nat} {w w' : World} (h : RKeep B b w w') (hB : B ≤ w.heap.size) (o : Obj) : RKeep B b w (w'.alloc o) := by
 have hs := h.below.size
 exact ⟨h.below.alloc (by omega) o, fun k hk hb hn => by rw [Below.heap_alloc _ _ _ (by omega)]; exact h.others k hk hb hn⟩
theorem RKeep.drew {B b : Nat} {w w' : World} (h : RKeep B b w w') : RKeep B b w w'.drew := ⟨h.below.drew, h.others⟩
theorem RKeep.setB {B b : Nat} {w w' : World} (h : RKeep B b w w') (hB : B ≤ b) (i : Nat) (u : Value) : RKeep B b w (w'.setCell ⟨b, i, none⟩ u) :=
 ⟨h.below.setCell (p := ⟨b, i, none⟩) hB u, fun k hk hb hn => by rw [Below.heap_setCell _ _ _ _ hb]; exact h.others k hk hb hn⟩
theorem RKeep.cell {B b : Nat} {w w' : World} (h : RKeep B b w w') {k : Nat} {c : Array Value} {e : TypeId} {fz : Nat × Nat} (hk : w.heap[k]? = some (.cells c e fz)) (hb : k ≠ b) (he : e ≠ 80) : w'.heap[k]? = some (.cells c e fz) := by
 rw [h.others k (heap_lt hk) hb (fun c' fz' e' => by rw [hk] at e'; cases e'; exact he rfl)]; exact hk
theorem InAt.below {base : Nat} {w w' : World} {v : Value} {l : List Int} (h : InAt base w v l) (hb : Below base w w') : InAt base w' v l := by
 rcases h with h | ⟨g, off, cap, h1, h2, h3, h4⟩
 ·exact .inl h
 ·exact .inr ⟨g, off, cap, h1, h2, h3, fun i n hn => by rw [hb.cell (p := ⟨g, off + i, none⟩) h2]; exact h4 i n hn⟩
theorem ownsRow9_keep {base n : Nat} {e : TypeId} {sz : Nat} {w w' : World} {v : Value} {vs : List Value} (h : w.ownsRow base e sz v n vs) (hk : ∀ g, v.ownBlock = some g → w'.heap[g]? = w.heap[g]?) : w'.ownsRow base e sz v n vs := by
 obtain ⟨h1, h2⟩ := h
 refine ⟨h1, ?_⟩
 rcases h2 with h2 | ⟨g, cap, cur, rfl, hg, hh, r⟩
 ·exact .inl h2
 ·exact .inr ⟨g, cap, cur, rfl, hg, by rw [hk g rfl]; exact hh, r⟩
theorem ownsRow9_lt {base n : Nat} {e : TypeId} {sz : Nat} {w : World} {v : Value} {vs : List Value} (h : w.ownsRow base e sz v n vs) : ∀ g, v.ownBlock = some g → base ≤ g ∧ g < w.heap.size ∧ ∃ c, w.heap[g]? = some (.cells c e) := by
 intro g hg
 rcases h.2 with ⟨rfl, _⟩ | ⟨g', cap, cur, rfl, hb, hh, _⟩
 ·simp [Value.ownBlock] at hg
 ·simp [Value.ownBlock] at hg
  subst hg
  exact ⟨hb, heap_lt hh, cur, hh⟩
theorem RunAt.lt {base b : Nat} {stop : Int} {r : Sp.Rst} {w : World} (h : RunAt base b stop r w) : b < w.heap.size := by
 obtain ⟨vv, iv, h1, _⟩ := h; exact heap_lt h1
theorem RunAt.ge {base b : Nat} {stop : Int} {r : Sp.Rst} {w : World} (h : RunAt base b stop r w) : base ≤ b := by
 obtain ⟨vv, iv, _, _, _, h4, _⟩ := h; exact h4
theorem RunAt.le {base b : Nat} {stop : Int} {r : Sp.Rst} {w : World} (h : RunAt base b stop r w) : base ≤ w.heap.size := by
 have := h.lt; have := h.ge; omega
theorem RunAt.below {base b : Nat} {stop : Int} {r : Sp.Rst} {w w' : World} (h : RunAt base b stop r w) (hb : Below w.heap.size w w') : RunAt base b stop r w' := by
 have hle := h.le
 obtain ⟨vv, iv, h1, h2, h3, h4, h5⟩ := h
 refine ⟨vv, iv, by rw [hb.block b (heap_lt h1)]; exact h1, ownsRow9_keep h2 (fun g hg => hb.block g (ownsRow9_lt h2 g hg).2.1), h3.below (hb.mono hle), h4, h5⟩
theorem RunAt.row_ne {base b : Nat} {w : World} {vv iv : Value} {stop : Int} {st : List Int} {fuel n : Nat} {vs : List Value} (h : w.heap[b]? = some (.cells (rnCells vv stop st iv fuel) 181)) (ho : w.ownsRow base 80 9 vv n vs) : ∀ g, vv.ownBlock = some g → g ≠ b := by
 intro g hg e
 obtain ⟨_, _, c, hc⟩ := ownsRow9_lt ho g hg
 rw [e, h] at hc
 cases hc
end Go.Proofs.YtiopfihjmkfdmaaGreatDoor
namespace Go.Proofs.YtiopfihjmkfdmaaGreatDoor
open Go.RowKit
set_option maxRecDepth 100000
set_option maxHeartbeats 1000000
end Go.Proofs.YtiopfihjmkfdmaaGreatDoor
namespace Go.Proofs.YtiopfihjmkfdmaaGreatDoor
open Go.RowKit
set_option maxRecDepth 100000
set_option maxHeartbeats 2000000
def SidesPost (base b : Nat) (r : Sp.Rst) (w : World) : Except Int (Int × Int) → Ending → World → Prop
 | .ok (x, y), e, w' => e = .returned (.tuple #[.int .i16 x, .int .i16 y, .bool true]) ∧ RunAt base b 0 r w' ∧ RKeep base b w w'
 | .error s, e, w' => ∃ m n, e = .returned (.tuple #[.int .i16 m, .int .i16 n, .bool false]) ∧ RunAt base b s r w' ∧ RKeep base b w w'
def CondPost (base b : Nat) (r : Sp.Rst) (w : World) : Except Int Bool → Ending → World → Prop
 | .ok h, e, w' => e = .returned (.tuple #[.bool h, .bool true]) ∧ RunAt base b 0 r w' ∧ RKeep base b w w'
 | .error s, e, w' => ∃ h, e = .returned (.tuple #[.bool h, .bool false]) ∧ RunAt base b s r w' ∧ RKeep base b w w'
end Go.Proofs.YtiopfihjmkfdmaaGreatDoor
namespace Go.Proofs.YtiopfihjmkfdmaaGreatDoor
open Go.RowKit
set_option maxRecDepth 100000
set_option maxHeartbeats 2000000
attribute [local go_sem ↓] Go.wp_at_zero Go.wp_at_succ
end Go.Proofs.YtiopfihjmkfdmaaGreatDoor
namespace Go.Proofs.YtiopfihjmkfdmaaGreatDoor
open Go.RowKit
set_option maxRecDepth 100000
set_option maxHeartbeats 2000000
theorem rn_in {w : World} {b : Nat} {vv iv : Value} {stop : Int} {st : List Int} {fuel : Nat} (h : w.heap[b]? = some (.cells (rnCells vv stop st iv fuel) 181)) (v : Value) : (w.setCell ⟨b, 10, none⟩ v).heap[b]? = some (.cells (rnCells vv stop st v fuel) 181) := by
 rw [heap_setCell_at h 10 v]; rfl
theorem rn_put {w : World} {b : Nat} {vv iv : Value} {stop : Int} {st : List Int} {fuel : Nat} (h : w.heap[b]? = some (.cells (rnCells vv stop st iv fuel) 181)) (hst : st.length = 8) (k : Nat) (hk : k < 8) (n : Int) : (w.setCell ⟨b, 2 + k, none⟩ (.int .i16 n)).heap[b]? = some (.cells (rnCells vv stop (st.set k n) iv fuel) 181) := by
 rw [heap_setCell_at h (2 + k) (.int .i16 n)]
 match st, hst with
 | [a0, a1, a2, a3, a4, a5, a6, a7], _ =>
  rcases (show k = 0 ∨ k = 1 ∨ k = 2 ∨ k = 3 ∨ k = 4 ∨ k = 5 ∨ k = 6 ∨ k = 7 from by omega) with rfl | rfl | rfl | rfl | rfl | rfl | rfl | rfl
  all_goals rfl
theorem RunAt.put {base b : Nat} {stop : Int} {r : Sp.Rst} {w : World} (h : RunAt base b stop r w) (k : Nat) (hk : k < 8) (n : Int) :
  RunAt base b stop (Sp.put k n r) (w.setCell ⟨b, 2 + k, none⟩ (.int .i16 n)) ∧ RKeep base b w (w.setCell ⟨b, 2 + k, none⟩ (.int .i16 n)) := by
 obtain ⟨vv, iv, h1, h2, h3, h4, h5, h6⟩ := h
 have kk := (RKeep.refl base b w).setB h4 (2 + k) (.int .i16 n)
 exact ⟨⟨vv, iv, rn_put h1 h5 k hk n, ownsRow9_keep h2 (fun g hg => Below.heap_setCell _ _ _ _ (RunAt.row_ne h1 h2 g hg)), h3.below kk.below, h4, by simp [Sp.put, h5], h6⟩, kk⟩
def nextOf (r : Sp.Rst) : Int × Sp.Rst := match r.ins with
 | [] => (0, r)
 | n :: rest => (n, { r with ins := rest })
theorem next_calls {base b : Nat} {stop : Int} {r : Sp.Rst} {w : World} (h : RunAt base b stop r w) :
  Calls Tryz.prog 137 #[.pointer (some ⟨b, 0, none⟩)] w fun e w' => e = .returned (.int .i16 (nextOf r).1) ∧ RunAt base b stop (nextOf r).2 w' ∧ RKeep base b w w' := by
 have hh := h
 obtain ⟨vv, iv, h1, h2, h3, h4, h5, h6⟩ := h
 have c10 := cell_of h1 10 (v := iv) rfl
 have f10 := frozen_of h1 10
 rcases h3 with ⟨a, c, rfl, hin⟩ | ⟨g, off, cap, rfl, hg, hcap, hcell⟩
 ·have e : Hid (nextOf r = (0, r)) := by unfold Hid nextOf; rw [hin]
  go_enter Tryz.func137, Tryz.ntmps137
  go_wp2_with fail
  go_ret
  rw [e.out]
  exact ⟨rfl, hh, RKeep.refl _ _ _⟩
 ·cases hr : r.ins with
  | nil =>
   have e : Hid (nextOf r = (0, r)) := by unfold Hid nextOf; rw [hr]
   rw [hr] at c10
   have c10' : w.cell? ⟨b, 10, none⟩ = some (.slice (some ⟨g, off, none⟩) 0 cap) := c10
   clear c10
   go_enter Tryz.func137, Tryz.ntmps137
   go_wp2_with fail
   go_ret
   rw [e.out]
   exact ⟨rfl, hh, RKeep.refl _ _ _⟩
  | cons n rest =>
   have e : Hid (nextOf r = (n, { r with ins := rest })) := by unfold Hid nextOf; rw [hr]
   have hl : r.ins.length = rest.length + 1 := by rw [hr]; simp
   rw [hl] at c10 hcap
   have c0 : w.cell? ⟨g, off, none⟩ = some (.int .i16 n) := by
    have := hcell 0 n (by rw [hr]; rfl)
    simpa using this
   by_cases hc1 : cap = 1
   ·subst hc1
    have hrn : rest = [] := List.eq_nil_of_length_eq_zero (by omega)
    subst hrn
    have k := (RKeep.refl base b w).setB h4 10 (.slice (some ⟨g, off, none⟩) 0 0)
    have HF : Hid (RunAt base b stop { r with ins := [] } (w.setCell ⟨b, 10, none⟩ (.slice (some ⟨g, off, none⟩) 0 0)) ∧ RKeep base b w (w.setCell ⟨b, 10, none⟩ (.slice (some ⟨g, off, none⟩) 0 0))) :=
     ⟨⟨vv, _, rn_in h1 _, ownsRow9_keep h2 (fun g hg => Below.heap_setCell _ _ _ _ (RunAt.row_ne h1 h2 g hg)), .inl ⟨_, _, rfl, rfl⟩, h4, h5, h6⟩, k⟩
    have c10' : w.cell? ⟨b, 10, none⟩ = some (.slice (some ⟨g, off, none⟩) 1 1) := c10
    clear hcell k hr hh h1 c10
    go_enter Tryz.func137, Tryz.ntmps137
    go_wp2_with fail
    go_ret
    rw [e.out]
    exact ⟨rfl, HF.out⟩
   ·have k := (RKeep.refl base b w).setB h4 10 (.slice (some ⟨g, off + 1, none⟩) rest.length (cap - 1))
    have HF : Hid (RunAt base b stop { r with ins := rest } (w.setCell ⟨b, 10, none⟩ (.slice (some ⟨g, off + 1, none⟩) rest.length (cap - 1))) ∧ RKeep base b w (w.setCell ⟨b, 10, none⟩ (.slice (some ⟨g, off + 1, none⟩) rest.length (cap - 1)))) := by
     refine ⟨⟨vv, _, rn_in h1 _, ownsRow9_keep h2 (fun g hg => Below.heap_setCell _ _ _ _ (RunAt.row_ne h1 h2 g hg)), ?_, h4, h5, h6⟩, k⟩
     refine InAt.below (w := w) (.inr ⟨g, off + 1, cap - 1, rfl, hg, by show rest.length ≤ cap - 1; omega, fun i m hm => ?_⟩) k.below
     have := hcell (i + 1) m (by rw [hr]; simpa using hm)
     rw [show off + 1 + i = off + (i + 1) from by omega]; exact this
    have hcap' : (rest.length : Int) + 1 ≤ (cap : Int) := by omega
    clear hcell k hr hh h1
    go_enter Tryz.func137, Tryz.ntmps137
    go_wp2_with fail
    go_ret
    rw [e.out]
    exact ⟨rfl, HF.out⟩
end Go.Proofs.YtiopfihjmkfdmaaGreatDoor
namespace Go.Proofs.YtiopfihjmkfdmaaGreatDoor
open Go.RowKit
set_option maxRecDepth 100000
set_option maxHeartbeats 400000
theorem isLetter_calls (c : UInt8) (w : World) :
  Calls Tryz.prog 119 #[.int .u8 c.toNat] w fun e w' => e = .returned (.bool (Sp.isLet c)) ∧ w' = w := by
 go_enter Tryz.func119, Tryz.ntmps119
 go_wp2
 all_goals
  go_ret
  exact ⟨ret_bool (by unfold Sp.isLet; rw [Bool.eq_iff_iff]; simp; omega), rfl⟩
theorem isDigit_calls (c : UInt8) (w : World) :
  Calls Tryz.prog 120 #[.int .u8 c.toNat] w fun e w' => e = .returned (.bool (Sp.isDig c)) ∧ w' = w := by
 go_enter Tryz.func120, Tryz.ntmps120
 go_wp2
 all_goals
  go_ret
  exact ⟨ret_bool (by unfold Sp.isDig; rw [Bool.eq_iff_iff]; simp; omega), rfl⟩
def FirstMeet (p : UInt8 → Bool) (l : Sp.Bs) (k : Nat) : Prop := ∀ j c, j < k → l[j]? = some c → p c = true
theorem FirstMeet.succ {p : UInt8 → Bool} {s : ByteArray} {k : Nat} (h : FirstMeet p s.data.toList k) (hk : k < s.size) (hp : p s[k] = true) : FirstMeet p s.data.toList (k + 1) := by
 intro j c hj hc
 by_cases e : j = k
 ·subst e
  have : s.data.toList[j]? = some s[j] := by
   rw [Array.getElem?_toList]; exact Array.getElem?_eq_getElem hk
  rw [this] at hc
  cases hc; exact hp
 ·exact h j c (by omega) hc
theorem headRun_of (p : UInt8 → Bool) : ∀ (l : Sp.Bs) (k : Nat), k ≤ l.length → FirstMeet p l k → (∀ c, l[k]? = some c → p c = false) → Sp.headRun p l = k
 | [], k, hk, _, _ => by simp at hk; subst hk; rfl
 | c :: r, 0, _, _, hs => by
  rw [Sp.headRun_cons, hs c (by simp)]; rfl
 | c :: r, k + 1, hk, hm, hs => by
  rw [Sp.headRun_cons, hm 0 c (by omega) (by simp)]
  have := headRun_of p r k (by simpa using hk) (fun j d hj hd => hm (j + 1) d (by omega) (by simpa using hd)) (fun d hd => hs d (by simpa using hd))
  simp [this]
theorem byte_at (s : ByteArray) (k : Nat) (h : k < s.size) : s.data.toList[k]? = some s[k] := by
 rw [Array.getElem?_toList]; exact Array.getElem?_eq_getElem h
theorem byte_none (s : ByteArray) (k : Nat) (h : ¬ k < s.size) : s.data.toList[k]? = none := by
 rw [Array.getElem?_toList]; exact Array.getElem?_eq_none (by have : s.data.size = s.size := rfl; omega)
theorem run_calls_letters (s : ByteArray) (w : World) (hs : s.size ≤ 400) :
  Calls Tryz.prog 118 #[.string s, .func (Fn.func 119) #[] #[]] w fun e w' => e = .returned (.int .i64 (Sp.headRun Sp.isLet s.data.toList)) ∧ w' = w := by
 go_enter Tryz.func118, Tryz.ntmps118
 go_wp2
 go_loop [5] (fun n => ∃ k : Nat, k ≤ s.size ∧ Hid (FirstMeet Sp.isLet s.data.toList k) ∧ n = .int .i64 k) (fun i => s.size - (intOf i).toNat)
 case atStart => exact ⟨0, Nat.zero_le _, fun _ _ h => absurd h (Nat.not_lt_zero _), rfl⟩
 case round =>
  obtain ⟨k, hk, hm, rfl⟩ := hrel
  by_cases hlt : k < s.size
  ·go_wp2_with fail
   refine (isLetter_calls s[k] _).mono ?_
   rintro e w' ⟨rfl, rfl⟩
   by_cases hpk : Sp.isLet s[k] = true
   ·have hm1 : Hid (FirstMeet Sp.isLet s.data.toList (k + 1)) := hm.out.succ hlt hpk
    go_wp2
    go_round
    case rel => exact ⟨k + 1, by omega, hm1, by go_num⟩
    case measure => simp [intOf]; omega
   ·have hpk' : Sp.isLet s[k] = false := by simpa using hpk
    have hr : Hid (Sp.headRun Sp.isLet s.data.toList = k) := headRun_of _ _ _ (by simpa using hk) hm.out (fun c hc => by rw [byte_at s k hlt] at hc; cases hc; exact hpk')
    go_wp2
    go_ret
    exact ⟨ret_int (by rw [hr.out]), rfl⟩
  ·have hr : Hid (Sp.headRun Sp.isLet s.data.toList = k) := headRun_of _ _ _ (by simpa using hk) hm.out (fun c hc => by rw [byte_none s k hlt] at hc; cases hc)
   go_wp2
   go_ret
   exact ⟨ret_int (by rw [hr.out]), rfl⟩
theorem run_calls_digits (s : ByteArray) (w : World) (hs : s.size ≤ 400) :
  Calls Tryz.prog 118 #[.string s, .func (Fn.func 120) #[] #[]] w fun e w' => e = .returned (.int .i64 (Sp.headRun Sp.isDig s.data.toList)) ∧ w' = w := by
 go_enter Tryz.func118, Tryz.ntmps118
 go_wp2
 go_loop [5] (fun n => ∃ k : Nat, k ≤ s.size ∧ Hid (FirstMeet Sp.isDig s.data.toList k) ∧ n = .int .i64 k) (fun i => s.size - (intOf i).toNat)
 case atStart => exact ⟨0, Nat.zero_le _, fun _ _ h => absurd h (Nat.not_lt_zero _), rfl⟩
 case round =>
  obtain ⟨k, hk, hm, rfl⟩ := hrel
  by_cases hlt : k < s.size
  ·go_wp2_with fail
   refine (isDigit_calls s[k] _).mono ?_
   rintro e w' ⟨rfl, rfl⟩
   by_cases hpk : Sp.isDig s[k] = true
   ·have hm1 : Hid (FirstMeet Sp.isDig s.data.toList (k + 1)) := hm.out.succ hlt hpk
    go_wp2
    go_round
    case rel => exact ⟨k + 1, by omega, hm1, by go_num⟩
    case measure => simp [intOf]; omega
   ·have hpk' : Sp.isDig s[k] = false := by simpa using hpk
    have hr : Hid (Sp.headRun Sp.isDig s.data.toList = k) := headRun_of _ _ _ (by simpa using hk) hm.out (fun c hc => by rw [byte_at s k hlt] at hc; cases hc; exact hpk')
    go_wp2
    go_ret
    exact ⟨ret_int (by rw [hr.out]), rfl⟩
  ·have hr : Hid (Sp.headRun Sp.isDig s.data.toList = k) := headRun_of _ _ _ (by simpa using hk) hm.out (fun c hc => by rw [byte_none s k hlt] at hc; cases hc)
   go_wp2
   go_ret
   exact ⟨ret_int (by rw [hr.out]), rfl⟩
theorem idx_yes (t : ByteArray) (c : UInt8) (w : World) (h : c ∈ t.data.toList) :
  Calls Tryz.prog 163 #[.string t, .int .u8 c.toNat] w fun e w' => ∃ n : Nat, e = .returned (.int .i64 n) ∧ w' = w := by
 refine (Tryz.strings_IndexByte t c.toNat w).mono ?_
 rintro e w' ⟨rfl, rfl⟩
 have hc : ((c.toNat : Int)).toNat.toUInt8 = c := by simp
 have := Lib.contains_iff_indexByte t.data.toList c
 rw [List.contains_iff_mem.2 h] at this
 have h0 : 0 ≤ Lib.indexByte t.data.toList c := by simpa using this.symm
 exact ⟨(Lib.indexByte t.data.toList c).toNat, by rw [hc, Int.toNat_of_nonneg h0], rfl⟩
theorem idx_no (t : ByteArray) (c : UInt8) (w : World) (h : c ∉ t.data.toList) :
  Calls Tryz.prog 163 #[.string t, .int .u8 c.toNat] w fun e w' => e = .returned (.int .i64 (-1)) ∧ w' = w := by
 refine (Tryz.strings_IndexByte t c.toNat w).mono ?_
 rintro e w' ⟨rfl, rfl⟩
 have hc : ((c.toNat : Int)).toNat.toUInt8 = c := by simp
 have := Lib.contains_iff_indexByte t.data.toList c
 have hn : t.data.toList.contains c = false := by
  cases hh : t.data.toList.contains c
  ·rfl
  ·exact absurd (List.contains_iff_mem.1 hh) h
 rw [hn] at this
 have h0 : ¬ 0 ≤ Lib.indexByte t.data.toList c := by simpa using this.symm
 have h1 := Lib.indexByte_ge t.data.toList c
 exact ⟨ret_int (by rw [hc]; omega), rfl⟩
theorem signLen_one (s : ByteArray) (h0 : 0 < s.size) (h1 : ¬ 1 < s.size) : Sp.signLen s.data.toList = if s[0] ∈ Sp.ones then 1 else 0 := by
 have e : s.data.toList = [s[0]] := by
  apply List.ext_getElem?
  intro i
  match i with
  | 0 => rw [byte_at s 0 h0]; rfl
  | i + 1 => rw [byte_none s (i + 1) (by omega)]; rfl
 rw [e, Sp.signLen_cons]
 simp
theorem signLen_more (s : ByteArray) (h1 : 1 < s.size) : Sp.signLen s.data.toList = if s[1].toNat = 61 ∧ s[0] ∈ Sp.twos then 2 else if s[0] ∈ Sp.ones then 1 else 0 := by
 obtain ⟨c, r, e⟩ : ∃ c r, s.data.toList = c :: r := by
  cases h : s.data.toList with
  | nil => have := byte_at s 0 (by omega); rw [h] at this; cases this
  | cons c r => exact ⟨c, r, rfl⟩
 have h0' := byte_at s 0 (by omega)
 have h1' := byte_at s 1 h1
 rw [e] at h0' h1' ⊢
 simp at h0' h1'
 have e1 : s[1].toNat = 61 ↔ s[1] = 61 := ⟨fun h => UInt8.toNat_inj.1 h, fun h => by rw [h]; rfl⟩
 rw [Sp.signLen_cons, List.head?_eq_getElem?, h1', h0']
 simp only [Option.some.injEq, e1]
theorem signSize_calls (s : ByteArray) (w : World) (h0 : 0 < s.size) (hs : s.size ≤ 400) :
  Calls Tryz.prog 121 #[.string s] w fun e w' => e = .returned (.int .i64 (Sp.signLen s.data.toList)) ∧ w' = w := by
 by_cases h1 : 1 < s.size
 ·have hf : Hid (Sp.signLen s.data.toList = if s[1].toNat = 61 ∧ s[0] ∈ Sp.twos then 2 else if s[0] ∈ Sp.ones then 1 else 0) := signLen_more s h1
  by_cases h2 : s[1].toNat = 61
  ·by_cases h3 : s[0] ∈ Sp.twos
   ·have hr : Hid (Sp.signLen s.data.toList = 2) := by unfold Hid; rw [hf.out, if_pos ⟨h2, h3⟩]
    have H3 := h3
    clear hf h3
    go_enter Tryz.func121, Tryz.ntmps121
    go_wp2_with fail
    refine (idx_yes _ _ _ H3).mono ?_
    rintro e w' ⟨n, rfl, rfl⟩
    go_wp2_with fail
    go_ret
    exact ⟨ret_int (by rw [hr.out]; rfl), rfl⟩
   ·by_cases h4 : s[0] ∈ Sp.ones
    ·have hr : Hid (Sp.signLen s.data.toList = 1) := by unfold Hid; rw [hf.out, if_neg (fun h => h3 h.2), if_pos h4]
     have H3 := h3
     have H4 := h4
     clear hf h3 h4
     go_enter Tryz.func121, Tryz.ntmps121
     go_wp2_with fail
     refine (idx_no _ _ _ H3).mono ?_
     rintro e w' ⟨rfl, rfl⟩
     go_wp2_with fail
     refine (idx_yes _ _ _ H4).mono ?_
     rintro e w' ⟨n, rfl, rfl⟩
     go_wp2_with fail
     go_ret
     exact ⟨ret_int (by rw [hr.out]; rfl), rfl⟩
    ·have hr : Hid (Sp.signLen s.data.toList = 0) := by unfold Hid; rw [hf.out, if_neg (fun h => h3 h.2), if_neg h4]
     have H3 := h3
     have H4 := h4
     clear hf h3 h4
     go_enter Tryz.func121, Tryz.ntmps121
     go_wp2_with fail
     refine (idx_no _ _ _ H3).mono ?_
     rintro e w' ⟨rfl, rfl⟩
     go_wp2_with fail
     refine (idx_no _ _ _ H4).mono ?_
     rintro e w' ⟨rfl, rfl⟩
     go_wp2_with fail
     go_ret
     exact ⟨ret_int (by rw [hr.out]; rfl), rfl⟩
  ·have h2' : ¬ ((s[1].toNat : Int) = 61) := by omega
   by_cases h4 : s[0] ∈ Sp.ones
   ·have hr : Hid (Sp.signLen s.data.toList = 1) := by unfold Hid; rw [hf.out, if_neg (fun h => h2 h.1), if_pos h4]
    have H4 := h4
    clear hf h4 h2
    go_enter Tryz.func121, Tryz.ntmps121
    go_wp2_with fail
    refine (idx_yes _ _ _ H4).mono ?_
    rintro e w' ⟨n, rfl, rfl⟩
    go_wp2_with fail
    go_ret
    exact ⟨ret_int (by rw [hr.out]; rfl), rfl⟩
   ·have hr : Hid (Sp.signLen s.data.toList = 0) := by unfold Hid; rw [hf.out, if_neg (fun h => h2 h.1), if_neg h4]
    have H4 := h4
    clear hf h4 h2
    go_enter Tryz.func121, Tryz.ntmps121
    go_wp2_with fail
    refine (idx_no _ _ _ H4).mono ?_
    rintro e w' ⟨rfl, rfl⟩
    go_wp2_with fail
    go_ret
    exact ⟨ret_int (by rw [hr.out]; rfl), rfl⟩
 ·have hf : Hid (Sp.signLen s.data.toList = if s[0] ∈ Sp.ones then 1 else 0) := signLen_one s h0 h1
  by_cases h4 : s[0] ∈ Sp.ones
  ·have hr : Hid (Sp.signLen s.data.toList = 1) := by unfold Hid; rw [hf.out, if_pos h4]
   have H4 := h4
   clear hf h4
   go_enter Tryz.func121, Tryz.ntmps121
   go_wp2_with fail
   refine (idx_yes _ _ _ H4).mono ?_
   rintro e w' ⟨n, rfl, rfl⟩
   go_wp2_with fail
   go_ret
   exact ⟨ret_int (by rw [hr.out]; rfl), rfl⟩
  ·have hr : Hid (Sp.signLen s.data.toList = 0) := by unfold Hid; rw [hf.out, if_neg h4]
   have H4 := h4
   clear hf h4
   go_enter Tryz.func121, Tryz.ntmps121
   go_wp2_with fail
   refine (idx_no _ _ _ H4).mono ?_
   rintro e w' ⟨rfl, rfl⟩
   go_wp2_with fail
   go_ret
   exact ⟨ret_int (by rw [hr.out]; rfl), rfl⟩
end Go.Proofs.YtiopfihjmkfdmaaGreatDoor
