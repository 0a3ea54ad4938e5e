import Derived.Test.YtiopfihjmkfdmaaGreatDoorU3
import Derived.BigQuiet
import Derived.Deep.DeepFit
import Derived.Deep.QuietTactic
import Derived.Deep.RegionWith
import Derived.Defers
import Derived.Lib.IndexAny
import Derived.Maps.AppendAt
import Derived.Maps.OwnSet
import Derived.Recover
import Derived.RegionDies
import Derived.Test.YtiopfihjmkfdmaaGreatDoorUh
namespace Go.Proofs.YtiopfihjmkfdmaaGreatDoor
open Go.RowKit
set_option maxRecDepth 100000
set_option maxHeartbeats 400000
theorem catch_idle (p q : Addr) (w : World) :
  CallsD Tryz.prog 54 #[.pointer (some p), .pointer (some q)] .returning w fun e u' w' => e = .returned (.tuple #[]) ∧ u' = .returning ∧ w' = w := by
 refine callsD_of_wpS Tryz.func54 rfl fun c₀ cs hu => ?_
 apply wpS_seq
 apply wpS_region
 simp [wpOpsS, go_sem, recoverD, hu, Tryz.ntmps54, Exit.thenS]
 refine wpS_of_wp ?_
 go_wp2_with fail
 cases c₀
 simp_all [bodyPostS, results, Tryz.results54]
theorem assert_fault (a : Addr) (w : World) : (Instr.typeAssert (.iface 90 (.pointer (some a))) 20 90 true).run Tryz.prog w = .ok (.tuple #[.pointer (some a), .bool true]) w := by kernel_rfl
theorem catch_panicking (P Q : Nat) (a : Addr) (w : World) (v0 v1 v3 v4 v2 : Value) (hp : w.cell? ⟨P, 0, none⟩ = some v0) (hp1 : w.cell? ⟨P, 1, none⟩ = some v1) (hp2 : w.cell? ⟨P, 2, none⟩ = some v3) (hp3 : w.cell? ⟨P, 3, none⟩ = some v4) (fp : w.frozen? ⟨P, 0, none⟩ = false) (fp1 : w.frozen? ⟨P, 1, none⟩ = false) (fp2 : w.frozen? ⟨P, 2, none⟩ = false) (fp3 : w.frozen? ⟨P, 3, none⟩ = false) (hq : w.cell? ⟨Q, 0, none⟩ = some v2) (fq : w.frozen? ⟨Q, 0, none⟩ = false) (hpq : P ≠ Q) :
  CallsD Tryz.prog 54 #[.pointer (some ⟨P, 0, none⟩), .pointer (some ⟨Q, 0, none⟩)] (.panicking [{ v := .iface 90 (.pointer (some a)), recovered := false }]) w fun e u' w' =>
   e = .returned (.tuple #[]) ∧ u' = .panicking [{ v := .iface 90 (.pointer (some a)), recovered := true }] ∧ w' = ((((w.setCell ⟨P, 0, none⟩ (.slice none 0 0)).setCell ⟨P, 1, none⟩ (.int .i64 0)).setCell ⟨P, 2, none⟩ (.int .i64 0)).setCell ⟨P, 3, none⟩ (.slice none 0 0)).setCell ⟨Q, 0, none⟩ (.iface 90 (.pointer (some a))) := by
 have hta := assert_fault a
 have hq2 : ((((w.setCell ⟨P, 0, none⟩ (.slice none 0 0)).setCell ⟨P, 1, none⟩ (.int .i64 0)).setCell ⟨P, 2, none⟩ (.int .i64 0)).setCell ⟨P, 3, none⟩ (.slice none 0 0)).cell? ⟨Q, 0, none⟩ = some v2 := by
  rw [World.cell?_of_block (w := w) (by rw [Below.heap_setCell _ _ _ _ (fun e => hpq e.symm), Below.heap_setCell _ _ _ _ (fun e => hpq e.symm), Below.heap_setCell _ _ _ _ (fun e => hpq e.symm), Below.heap_setCell _ _ _ _ (fun e => hpq e.symm)])]; exact hq
 have fq2 : ((((w.setCell ⟨P, 0, none⟩ (.slice none 0 0)).setCell ⟨P, 1, none⟩ (.int .i64 0)).setCell ⟨P, 2, none⟩ (.int .i64 0)).setCell ⟨P, 3, none⟩ (.slice none 0 0)).frozen? ⟨Q, 0, none⟩ = false := by
  rw [World.frozen?_of_block (w := w) (by rw [Below.heap_setCell _ _ _ _ (fun e => hpq e.symm), Below.heap_setCell _ _ _ _ (fun e => hpq e.symm), Below.heap_setCell _ _ _ _ (fun e => hpq e.symm), Below.heap_setCell _ _ _ _ (fun e => hpq e.symm)])]; exact fq
 refine callsD_of_wpS Tryz.func54 rfl fun c₀ cs hu => ?_
 apply wpS_seq
 apply wpS_region
 simp [wpOpsS, go_sem, recoverD, hu, Tryz.ntmps54, Exit.thenS]
 refine wpS_of_wp ?_
 change Code.wp _ _ _ { tmps := #[.pointer (some ⟨P, 0, none⟩), .pointer (some ⟨Q, 0, none⟩), undef, undef, undef, .iface 90 (.pointer (some a)), undef, undef, undef, undef, undef, undef, undef, undef], defers := [] } _
 go_wp2_with fail
 simp [bodyPostS, results, Tryz.results54]
end Go.Proofs.YtiopfihjmkfdmaaGreatDoor
namespace Go.Proofs.YtiopfihjmkfdmaaGreatDoor
namespace Sp
theorem take_ok_iff {t l l1 : Bs} (h : take t l = .ok l1) : tok l = t ∧ l1 = next l := by
 unfold take at h
 split at h
 ·cases h; exact ⟨by assumption, rfl⟩
 ·cases h
theorem enter_ok_iff {t l l1 : Bs} {o : Nat} (h : enter t o l = .ok l1) : tok l = t ∧ o ≠ 12 ∧ l1 = next l := by
 unfold enter at h
 split at h
 ·split at h
  ·cases h
  ·cases h; exact ⟨by assumption, by assumption, rfl⟩
 ·cases h
theorem pName_ok_iff {l l1 : Bs} {k : Nat} (h : pName l = .ok (k, l1)) : nameVal l = some k ∧ l1 = next l := by
 unfold pName at h
 split at h
 ·rename_i hk; cases h; exact ⟨hk, rfl⟩
 ·cases h
theorem pChain_dec {A : Alg} {lv : Nat} {part : Bs → R A.S} (hp : ∀ l x l1, part l = .ok (x, l1) → l1.length ≤ l.length) :
  ∀ (m : Nat) (x : A.S) (l : Bs) (y : A.S) (l1 : Bs), pChain A lv part m x l = .ok (y, l1) → l1.length ≤ l.length
 | 0, x, l, y, l1, h => by
  unfold pChain at h
  cases h; exact Nat.le_refl _
 | m + 1, x, l, y, l1, h => by
  unfold pChain at h
  split at h
  ·split at h
   ·split at h
    ·rename_i y' l' hr
     have h1 := hp _ _ _ hr
     have h2 := pChain_dec hp m _ _ _ _ h
     have h3 := next_le l
     omega
    ·cases h
   ·cases h; exact Nat.le_refl _
  ·cases h; exact Nat.le_refl _
theorem pWith_dec {A : Alg} {lv : Nat} {part : Bs → R A.S} (hp : ∀ l x l1, part l = .ok (x, l1) → l1.length ≤ l.length) (l : Bs) (y : A.S) (l1 : Bs) (h : pWith A lv part l = .ok (y, l1)) : l1.length ≤ l.length := by
 unfold pWith at h
 split at h
 ·rename_i x l' hr
  have h1 := hp _ _ _ hr
  have h2 := pChain_dec hp _ _ _ _ _ h
  omega
 ·cases h
theorem pWith_lt {A : Alg} {lv : Nat} {part : Bs → R A.S} (hp : ∀ l x l1, part l = .ok (x, l1) → l1.length < l.length) (l : Bs) (y : A.S) (l1 : Bs) (h : pWith A lv part l = .ok (y, l1)) : l1.length < l.length := by
 unfold pWith at h
 split at h
 ·rename_i x l' hr
  have h1 := hp _ _ _ hr
  have h2 := pChain_dec (fun l x l1 h => Nat.le_of_lt (hp l x l1 h)) _ _ _ _ _ h
  omega
 ·cases h
theorem pSum_lt {A : Alg} {u : Bs → R A.S} (hp : ∀ l x l1, u l = .ok (x, l1) → l1.length < l.length) (l : Bs) (y : A.S) (l1 : Bs) (h : pSum A u l = .ok (y, l1)) : l1.length < l.length :=
 pWith_lt (pWith_lt hp) l y l1 h
theorem nameVal_kind {l : Bs} {k : Nat} (h : nameVal l = some k) : tokKind l = 2 := by
 unfold nameVal at h
 split at h
 ·split at h
  ·rename_i hc; exact hc.1
  ·cases h
 ·cases h
theorem pUnary_lt {A : Alg} : ∀ (n o : Nat) (l : Bs) (x : A.S) (l1 : Bs), pUnary A n o l = .ok (x, l1) → l1.length < l.length
 | 0, o, l, x, l1, h => by unfold pUnary bad at h; cases h
 | n + 1, o, l, x, l1, h => by
  unfold pUnary at h
  split at h
  ·rename_i hk
   split at h
   ·cases h; exact next_lt (tokLen_pos (.inr (.inl hk)))
   ·cases h
  ·split at h
   ·split at h
    ·rename_i k l2 hr
     cases h
     obtain ⟨hk, rfl⟩ := pName_ok_iff hr
     exact next_lt (tokLen_pos (.inl (nameVal_kind hk)))
    ·cases h
   ·split at h
    ·split at h
     ·rename_i l2 hr
      obtain ⟨ht, _, rfl⟩ := enter_ok_iff hr
      have := next_lt_of_tok ht (by simp)
      split at h
      ·rename_i x2 l3 hr2
       have := pUnary_lt n _ _ _ _ hr2
       cases h; omega
      ·cases h
     ·cases h
    ·split at h
     ·rename_i l2 hr
      obtain ⟨ht, _, rfl⟩ := enter_ok_iff hr
      have := next_lt_of_tok ht (by simp)
      split at h
      ·rename_i x2 l3 hr2
       have := pSum_lt (pUnary_lt n (o + 1)) _ _ _ hr2
       split at h
       ·rename_i l4 hr3
        obtain ⟨_, rfl⟩ := take_ok_iff hr3
        have := next_le l3
        cases h; omega
       ·cases h
      ·cases h
     ·cases h
end Sp
end Go.Proofs.YtiopfihjmkfdmaaGreatDoor
namespace Go.Proofs.YtiopfihjmkfdmaaGreatDoor
open Go.RowKit Go.WideMaps Go.Maps
set_option maxRecDepth 100000
set_option maxHeartbeats 400000
structure Laid (w : World) : Prop where
 size : 11 ≤ w.heap.size
 ops : ∀ k, k < 5 → w.cell? ⟨1, k, none⟩ = some (.string ⟨(Sp.opSign k).toArray⟩)
 rels : ∀ k, k < 6 → w.cell? ⟨2, k, none⟩ = some (.string ⟨(Sp.relSign k).toArray⟩)
 errS : ∃ tp p, w.cell? ⟨9, 0, none⟩ = some (.iface tp p)
 errR : ∃ tp p, w.cell? ⟨10, 0, none⟩ = some (.iface tp p)
 pow : Lib.TabIs Tryz.prog w "internal/strconv.uint64pow10" .u64 Lib.pow10Tab
theorem opSign_calls (k : Nat) (hk : k < 5) (w : World) (h : w.cell? ⟨1, k, none⟩ = some (.string ⟨(Sp.opSign k).toArray⟩)) :
  Calls Tryz.prog 87 #[.int .i64 k] w fun e w' => e = .returned (.string ⟨(Sp.opSign k).toArray⟩) ∧ w' = w := by
 generalize (⟨(Sp.opSign k).toArray⟩ : ByteArray) = t at *
 go_enter Tryz.func87, Tryz.ntmps87
 go_wp2_with fail
 go_ret
 exact ⟨rfl, rfl⟩
theorem relSign_calls (k : Nat) (hk : k < 6) (w : World) (h : w.cell? ⟨2, k, none⟩ = some (.string ⟨(Sp.relSign k).toArray⟩)) :
  Calls Tryz.prog 88 #[.int .i64 k] w fun e w' => e = .returned (.string ⟨(Sp.relSign k).toArray⟩) ∧ w' = w := by
 generalize (⟨(Sp.relSign k).toArray⟩ : ByteArray) = t at *
 go_enter Tryz.func88, Tryz.ntmps88
 go_wp2_with fail
 go_ret
 exact ⟨rfl, rfl⟩
theorem hasSite_calls (k : Nat) (hk : k < 5) (w : World) :
  Calls Tryz.prog 240 #[.int .i64 k] w fun e w' => e = .returned (.bool (decide (3 ≤ k))) ∧ w' = w := by
 have hk' : k = 3 ∨ k = 4 ∨ (k < 3 ∧ ¬ ((k : Int) = 3) ∧ ¬ ((k : Int) = 4)) := by omega
 rcases hk' with rfl | rfl | ⟨h2, h0, h1⟩
 ·go_enter Tryz.func240, Tryz.ntmps240
  go_wp2_with fail
  go_ret
  exact ⟨rfl, rfl⟩
 ·go_enter Tryz.func240, Tryz.ntmps240
  go_wp2_with fail
  go_ret
  exact ⟨rfl, rfl⟩
 ·have hl : Hid (decide (3 ≤ k) = false) := by unfold Hid; simp; omega
  clear h2 hk
  go_enter Tryz.func240, Tryz.ntmps240
  go_wp2_with fail
  go_ret
  refine ⟨ret_bool ?_, rfl⟩
  rw [hl.out]
  simp [h0, h1]
theorem opLevel_calls (k : Nat) (hk : k < 5) (w : World) :
  Calls Tryz.prog 172 #[.int .i64 k] w fun e w' => e = .returned (.int .i64 (Sp.opLevel k)) ∧ w' = w := by
 have hk' : k = 0 ∨ k = 1 ∨ (2 ≤ k ∧ ¬ ((k : Int) = 0) ∧ ¬ ((k : Int) = 1)) := by omega
 rcases hk' with rfl | rfl | ⟨h2, h0, h1⟩
 ·go_enter Tryz.func172, Tryz.ntmps172
  go_wp2_with fail
  go_ret
  exact ⟨rfl, rfl⟩
 ·go_enter Tryz.func172, Tryz.ntmps172
  go_wp2_with fail
  go_ret
  exact ⟨rfl, rfl⟩
 ·have hl : Hid (Sp.opLevel k = 1) := by unfold Hid Sp.opLevel; rw [if_neg (by omega)]
  have b0 : ((k : Int) == 0) = false := by simp; omega
  have b1 : ((k : Int) == 1) = false := by simp; omega
  go_enter Tryz.func172, Tryz.ntmps172
  go_wp2_with fail
  go_ret
  exact ⟨ret_int (by rw [hl.out]; rfl), rfl⟩
theorem law9 : Keyed Tryz.prog 9 := string_keyed Tryz.underlying9
theorem zeroOp (w : World) : (zeroValue 229).run Tryz.prog w = .ok (.int .i64 0) w := by kernel_rfl
theorem zeroRel (w : World) : (zeroValue 230).run Tryz.prog w = .ok (.int .i64 0) w := by kernel_rfl
def opsD : Nat → DataW Unit
 | 0 => .map []
 | k + 1 => (opsD k).put (.string (Sp.opSign k)) (.lit (.int .i64 k))
def relsD : Nat → DataW Unit
 | 0 => .map []
 | k + 1 => (relsD k).put (.string (Sp.relSign k)) (.lit (.int .i64 k))
def OpsMap (m : Nat) (w : World) : Prop := w.ownsMap Tryz.prog 9 (plainElem (H := Unit) Tryz.prog 229) m 5 (opsD 5)
def RelsMap (m : Nat) (w : World) : Prop := w.ownsMap Tryz.prog 9 (plainElem (H := Unit) Tryz.prog 230) m 6 (relsD 6)
theorem key_of (t : Sp.Bs) (h : t.length ≤ 400) : keyOf Tryz.prog 9 (.string ⟨t.toArray⟩) = some (.string t) := by
 have := keyOf_string_mk (P := Tryz.prog) (s := ⟨t.toArray⟩) Tryz.underlying9 (by show t.toArray.size ≤ maxLen; unfold maxLen; simp; omega)
 simpa using this
theorem opSign_len (k : Nat) : (Sp.opSign k).length ≤ 400 := by unfold Sp.opSign; split <;> decide
theorem relSign_len (k : Nat) : (Sp.relSign k).length ≤ 400 := by unfold Sp.relSign; split <;> decide
theorem ops_calls (w : World) (hL : Laid w) :
  Calls Tryz.prog 56 #[] w fun e w' => e = .returned (.map (some w.heap.size)) ∧ OpsMap w.heap.size w' ∧ Below w.heap.size w w' := by
 have hmm := @run_makeMap Tryz.prog
 go_enter Tryz.func56, Tryz.ntmps56
 go_wp2_with fail
 go_loopw [2] (fun i wr => ∃ k : Nat, k ≤ 5 ∧ i = .int .i64 k ∧ wr.ownsMap Tryz.prog 9 (plainElem (H := Unit) Tryz.prog 229) w.heap.size k (opsD k) ∧ Below w.heap.size w wr)
  (fun i _ => 5 - (intOf i).toNat)
 case atStart => exact ⟨0, Nat.zero_le _, rfl, World.ownsMap_made _ _ _ _, (Below.refl _ _).alloc (Nat.le_refl _) _⟩
 case round =>
  obtain ⟨k, hk, rfl, hown, hnx⟩ := hrel
  by_cases hlt : k < 5
  ·have hc : wr.cell? ⟨1, k, none⟩ = some (.string ⟨(Sp.opSign k).toArray⟩) := by
    rw [hnx.cell (by have := hL.size; show 1 < w.heap.size; omega)]; exact hL.ops k hlt
   have HC : Hid (wr.cell? ⟨1, k, none⟩ = some (.string ⟨(Sp.opSign k).toArray⟩)) := hc
   clear hc
   have hle : (k : Int) ≤ 4 := by omega
   have hkey := key_of (Sp.opSign k) (opSign_len k)
   have hwf : (Lit.int .i64 (k : Int)).wf = true := by have := wrap64_wf (k : Int); rwa [IntWalk.wrap64_in _ (by omega)] at this
   go_wp2_with fail
   refine (opSign_calls k hlt _ HC.out).mono ?_
   rintro e w' ⟨rfl, rfl⟩
   go_wp2_with (first
    | (at_mapUpdate; refine wpList_mapUpdate_own _ rfl _ _ _ 141 rfl 9 229 law9 Tryz.underlying141 _ w.heap.size k _ rfl hown (by unfold maxLen; omega) _ _ _ rfl rfl hkey _ [] (plainElem_int Tryz.underlying229 hwf) ?_)
    | go_in)
   intro w1 hown1 hgrow1
   have R2 := hnx.grown hgrow1 hnx.size (fun j hj => by cases hj; exact Nat.le_refl _)
   clear hgrow1 hown
   go_wp2_with fail
   exact ⟨⟨k + 1, by omega, by go_num, hown1, R2⟩, by simp [intOf]; omega⟩
  ·have hge : ¬ (k : Int) ≤ 4 := by omega
   have e : k = 5 := by omega
   subst e
   go_wp2_with fail
   go_ret
   exact ⟨rfl, hown, hnx⟩
theorem rels_calls (w : World) (hL : Laid w) :
  Calls Tryz.prog 57 #[] w fun e w' => e = .returned (.map (some w.heap.size)) ∧ RelsMap w.heap.size w' ∧ Below w.heap.size w w' := by
 have hmm := @run_makeMap Tryz.prog
 go_enter Tryz.func57, Tryz.ntmps57
 go_wp2_with fail
 go_loopw [2] (fun i wr => ∃ k : Nat, k ≤ 6 ∧ i = .int .i64 k ∧ wr.ownsMap Tryz.prog 9 (plainElem (H := Unit) Tryz.prog 230) w.heap.size k (relsD k) ∧ Below w.heap.size w wr)
  (fun i _ => 6 - (intOf i).toNat)
 case atStart => exact ⟨0, Nat.zero_le _, rfl, World.ownsMap_made _ _ _ _, (Below.refl _ _).alloc (Nat.le_refl _) _⟩
 case round =>
  obtain ⟨k, hk, rfl, hown, hnx⟩ := hrel
  by_cases hlt : k < 6
  ·have hc : wr.cell? ⟨2, k, none⟩ = some (.string ⟨(Sp.relSign k).toArray⟩) := by
    rw [hnx.cell (by have := hL.size; show 2 < w.heap.size; omega)]; exact hL.rels k hlt
   have HC : Hid (wr.cell? ⟨2, k, none⟩ = some (.string ⟨(Sp.relSign k).toArray⟩)) := hc
   clear hc
   have hle : (k : Int) ≤ 5 := by omega
   have hkey := key_of (Sp.relSign k) (relSign_len k)
   have hwf : (Lit.int .i64 (k : Int)).wf = true := by have := wrap64_wf (k : Int); rwa [IntWalk.wrap64_in _ (by omega)] at this
   go_wp2_with fail
   refine (relSign_calls k hlt _ HC.out).mono ?_
   rintro e w' ⟨rfl, rfl⟩
   go_wp2_with (first
    | (at_mapUpdate; refine wpList_mapUpdate_own _ rfl _ _ _ 143 rfl 9 230 law9 Tryz.underlying143 _ w.heap.size k _ rfl hown (by unfold maxLen; omega) _ _ _ rfl rfl hkey _ [] (plainElem_int Tryz.underlying230 hwf) ?_)
    | go_in)
   intro w1 hown1 hgrow1
   have R2 := hnx.grown hgrow1 hnx.size (fun j hj => by cases hj; exact Nat.le_refl _)
   clear hgrow1 hown
   go_wp2_with fail
   exact ⟨⟨k + 1, by omega, by go_num, hown1, R2⟩, by simp [intOf]; omega⟩
  ·have hge : ¬ (k : Int) ≤ 5 := by omega
   have e : k = 6 := by omega
   subst e
   go_wp2_with fail
   go_ret
   exact ⟨rfl, hown, hnx⟩
end Go.Proofs.YtiopfihjmkfdmaaGreatDoor
namespace Go.Proofs.YtiopfihjmkfdmaaGreatDoor
open Go.RowKit Go.WideMaps Go.Maps
set_option maxRecDepth 100000
set_option maxHeartbeats 400000
theorem opsD_isMap : ∀ k, IsMap (opsD k)
 | 0 => isMap_empty
 | k + 1 => (opsD_isMap k).put _ _
theorem relsD_isMap : ∀ k, IsMap (relsD k)
 | 0 => isMap_empty
 | k + 1 => (relsD_isMap k).put _ _
theorem lit_ne {a b : Sp.Bs} (h : a ≠ b) : (Lit.string a) ≠ Lit.string b := fun e => h (Lit.string.inj e)
theorem step_same {D : DataW Unit} (hD : IsMap D) (t : Sp.Bs) (d z : DataW Unit) : Maps.has (D.put (.string t) d) (.string t) = true ∧ (D.put (.string t) d).atKey (.string t) z = d :=
 ⟨has_put_same hD (by simp [WideAt.IsKeyLit]) _, atKey_put_same hD (by simp [WideAt.IsKeyLit]) _ _⟩
theorem step_other {D : DataW Unit} (t u : Sp.Bs) (d z : DataW Unit) (h : u ≠ t) : Maps.has (D.put (.string t) d) (.string u) = Maps.has D (.string u) ∧ (D.put (.string t) d).atKey (.string u) z = D.atKey (.string u) z :=
 ⟨has_put_other (lit_ne h) _, atKey_put_other (lit_ne h) _ _⟩
theorem ops_view (t : Sp.Bs) (z : DataW Unit) : Maps.has (opsD 5) (.string t) = (Sp.opOf t).isSome ∧ (opsD 5).atKey (.string t) z = (match Sp.opOf t with | some k => .lit (.int .i64 (k : Nat)) | none => z) := by
 unfold Sp.opOf
 by_cases h0 : t = [43]
 ·subst h0
  have e4 := step_other (D := opsD 4) (Sp.opSign 4) [43] (.lit (.int .i64 (4 : Nat))) z (by decide)
  have e3 := step_other (D := opsD 3) (Sp.opSign 3) [43] (.lit (.int .i64 (3 : Nat))) z (by decide)
  have e2 := step_other (D := opsD 2) (Sp.opSign 2) [43] (.lit (.int .i64 (2 : Nat))) z (by decide)
  have e1 := step_other (D := opsD 1) (Sp.opSign 1) [43] (.lit (.int .i64 (1 : Nat))) z (by decide)
  have e0 := step_same (opsD_isMap 0) [43] (.lit (.int .i64 (0 : Nat))) z
  exact ⟨(e4.1.trans (e3.1.trans (e2.1.trans (e1.1.trans e0.1)))), (e4.2.trans (e3.2.trans (e2.2.trans (e1.2.trans e0.2))))⟩
 by_cases h1 : t = [45]
 ·subst h1
  have e4 := step_other (D := opsD 4) (Sp.opSign 4) [45] (.lit (.int .i64 (4 : Nat))) z (by decide)
  have e3 := step_other (D := opsD 3) (Sp.opSign 3) [45] (.lit (.int .i64 (3 : Nat))) z (by decide)
  have e2 := step_other (D := opsD 2) (Sp.opSign 2) [45] (.lit (.int .i64 (2 : Nat))) z (by decide)
  have e1 := step_same (opsD_isMap 1) [45] (.lit (.int .i64 (1 : Nat))) z
  exact ⟨(e4.1.trans (e3.1.trans (e2.1.trans e1.1))), (e4.2.trans (e3.2.trans (e2.2.trans e1.2)))⟩
 by_cases h2 : t = [42]
 ·subst h2
  have e4 := step_other (D := opsD 4) (Sp.opSign 4) [42] (.lit (.int .i64 (4 : Nat))) z (by decide)
  have e3 := step_other (D := opsD 3) (Sp.opSign 3) [42] (.lit (.int .i64 (3 : Nat))) z (by decide)
  have e2 := step_same (opsD_isMap 2) [42] (.lit (.int .i64 (2 : Nat))) z
  exact ⟨(e4.1.trans (e3.1.trans e2.1)), (e4.2.trans (e3.2.trans e2.2))⟩
 by_cases h3 : t = [47]
 ·subst h3
  have e4 := step_other (D := opsD 4) (Sp.opSign 4) [47] (.lit (.int .i64 (4 : Nat))) z (by decide)
  have e3 := step_same (opsD_isMap 3) [47] (.lit (.int .i64 (3 : Nat))) z
  exact ⟨(e4.1.trans e3.1), (e4.2.trans e3.2)⟩
 by_cases h4 : t = [37]
 ·subst h4
  have e4 := step_same (opsD_isMap 4) [37] (.lit (.int .i64 (4 : Nat))) z
  exact ⟨ e4.1,  e4.2⟩
 have e4 := step_other (D := opsD 4) (Sp.opSign 4) t (.lit (.int .i64 (4 : Nat))) z h4
 have e3 := step_other (D := opsD 3) (Sp.opSign 3) t (.lit (.int .i64 (3 : Nat))) z h3
 have e2 := step_other (D := opsD 2) (Sp.opSign 2) t (.lit (.int .i64 (2 : Nat))) z h2
 have e1 := step_other (D := opsD 1) (Sp.opSign 1) t (.lit (.int .i64 (1 : Nat))) z h1
 have e0 := step_other (D := opsD 0) (Sp.opSign 0) t (.lit (.int .i64 (0 : Nat))) z h0
 rw [if_neg h0, if_neg h1, if_neg h2, if_neg h3, if_neg h4]
 exact ⟨(e4.1.trans (e3.1.trans (e2.1.trans (e1.1.trans (e0.1.trans rfl))))), (e4.2.trans (e3.2.trans (e2.2.trans (e1.2.trans (e0.2.trans rfl)))))⟩
theorem rels_view (t : Sp.Bs) (z : DataW Unit) : Maps.has (relsD 6) (.string t) = (Sp.relOf t).isSome ∧ (relsD 6).atKey (.string t) z = (match Sp.relOf t with | some k => .lit (.int .i64 (k : Nat)) | none => z) := by
 unfold Sp.relOf
 by_cases h0 : t = [60]
 ·subst h0
  have e5 := step_other (D := relsD 5) (Sp.relSign 5) [60] (.lit (.int .i64 (5 : Nat))) z (by decide)
  have e4 := step_other (D := relsD 4) (Sp.relSign 4) [60] (.lit (.int .i64 (4 : Nat))) z (by decide)
  have e3 := step_other (D := relsD 3) (Sp.relSign 3) [60] (.lit (.int .i64 (3 : Nat))) z (by decide)
  have e2 := step_other (D := relsD 2) (Sp.relSign 2) [60] (.lit (.int .i64 (2 : Nat))) z (by decide)
  have e1 := step_other (D := relsD 1) (Sp.relSign 1) [60] (.lit (.int .i64 (1 : Nat))) z (by decide)
  have e0 := step_same (relsD_isMap 0) [60] (.lit (.int .i64 (0 : Nat))) z
  exact ⟨(e5.1.trans (e4.1.trans (e3.1.trans (e2.1.trans (e1.1.trans e0.1))))), (e5.2.trans (e4.2.trans (e3.2.trans (e2.2.trans (e1.2.trans e0.2)))))⟩
 by_cases h1 : t = [60, 61]
 ·subst h1
  have e5 := step_other (D := relsD 5) (Sp.relSign 5) [60, 61] (.lit (.int .i64 (5 : Nat))) z (by decide)
  have e4 := step_other (D := relsD 4) (Sp.relSign 4) [60, 61] (.lit (.int .i64 (4 : Nat))) z (by decide)
  have e3 := step_other (D := relsD 3) (Sp.relSign 3) [60, 61] (.lit (.int .i64 (3 : Nat))) z (by decide)
  have e2 := step_other (D := relsD 2) (Sp.relSign 2) [60, 61] (.lit (.int .i64 (2 : Nat))) z (by decide)
  have e1 := step_same (relsD_isMap 1) [60, 61] (.lit (.int .i64 (1 : Nat))) z
  exact ⟨(e5.1.trans (e4.1.trans (e3.1.trans (e2.1.trans e1.1)))), (e5.2.trans (e4.2.trans (e3.2.trans (e2.2.trans e1.2))))⟩
 by_cases h2 : t = [61, 61]
 ·subst h2
  have e5 := step_other (D := relsD 5) (Sp.relSign 5) [61, 61] (.lit (.int .i64 (5 : Nat))) z (by decide)
  have e4 := step_other (D := relsD 4) (Sp.relSign 4) [61, 61] (.lit (.int .i64 (4 : Nat))) z (by decide)
  have e3 := step_other (D := relsD 3) (Sp.relSign 3) [61, 61] (.lit (.int .i64 (3 : Nat))) z (by decide)
  have e2 := step_same (relsD_isMap 2) [61, 61] (.lit (.int .i64 (2 : Nat))) z
  exact ⟨(e5.1.trans (e4.1.trans (e3.1.trans e2.1))), (e5.2.trans (e4.2.trans (e3.2.trans e2.2)))⟩
 by_cases h3 : t = [33, 61]
 ·subst h3
  have e5 := step_other (D := relsD 5) (Sp.relSign 5) [33, 61] (.lit (.int .i64 (5 : Nat))) z (by decide)
  have e4 := step_other (D := relsD 4) (Sp.relSign 4) [33, 61] (.lit (.int .i64 (4 : Nat))) z (by decide)
  have e3 := step_same (relsD_isMap 3) [33, 61] (.lit (.int .i64 (3 : Nat))) z
  exact ⟨(e5.1.trans (e4.1.trans e3.1)), (e5.2.trans (e4.2.trans e3.2))⟩
 by_cases h4 : t = [62, 61]
 ·subst h4
  have e5 := step_other (D := relsD 5) (Sp.relSign 5) [62, 61] (.lit (.int .i64 (5 : Nat))) z (by decide)
  have e4 := step_same (relsD_isMap 4) [62, 61] (.lit (.int .i64 (4 : Nat))) z
  exact ⟨(e5.1.trans e4.1), (e5.2.trans e4.2)⟩
 by_cases h5 : t = [62]
 ·subst h5
  have e5 := step_same (relsD_isMap 5) [62] (.lit (.int .i64 (5 : Nat))) z
  exact ⟨ e5.1,  e5.2⟩
 have e5 := step_other (D := relsD 5) (Sp.relSign 5) t (.lit (.int .i64 (5 : Nat))) z h5
 have e4 := step_other (D := relsD 4) (Sp.relSign 4) t (.lit (.int .i64 (4 : Nat))) z h4
 have e3 := step_other (D := relsD 3) (Sp.relSign 3) t (.lit (.int .i64 (3 : Nat))) z h3
 have e2 := step_other (D := relsD 2) (Sp.relSign 2) t (.lit (.int .i64 (2 : Nat))) z h2
 have e1 := step_other (D := relsD 1) (Sp.relSign 1) t (.lit (.int .i64 (1 : Nat))) z h1
 have e0 := step_other (D := relsD 0) (Sp.relSign 0) t (.lit (.int .i64 (0 : Nat))) z h0
 rw [if_neg h0, if_neg h1, if_neg h2, if_neg h3, if_neg h4, if_neg h5]
 exact ⟨(e5.1.trans (e4.1.trans (e3.1.trans (e2.1.trans (e1.1.trans (e0.1.trans rfl)))))), (e5.2.trans (e4.2.trans (e3.2.trans (e2.2.trans (e1.2.trans (e0.2.trans rfl))))))⟩
theorem ops_look {m : Nat} {w : World} (h : OpsMap m w) (t : Sp.Bs) (ht : t.length ≤ 400) :
  (Instr.lookup 141 (.map (some m)) (.string ⟨t.toArray⟩) true).run Tryz.prog w = .ok (.tuple #[.int .i64 (((Sp.opOf t).getD 0 : Nat) : Int), .bool (Sp.opOf t).isSome]) w := by
 obtain ⟨v, ps, hrun, hv⟩ := World.ownsMap.look_ok h law9 Tryz.underlying141 (zeroOp w) (plainElem_int Tryz.underlying229 (a := 0) (by decide)) (key_of t ht)
 have hw := ops_view t (.lit (.int .i64 0))
 rw [hw.1] at hrun
 rw [hw.2] at hv
 obtain ⟨a, rfl, hc, _⟩ := plainElem_int_inv Tryz.underlying229 hv
 rw [hrun]
 cases ho : Sp.opOf t with
 | none => rw [ho] at hc; simp at hc; simp [← hc.1]
 | some k => rw [ho] at hc; simp at hc; simp [← hc.1]
theorem rels_look {m : Nat} {w : World} (h : RelsMap m w) (t : Sp.Bs) (ht : t.length ≤ 400) :
  (Instr.lookup 143 (.map (some m)) (.string ⟨t.toArray⟩) true).run Tryz.prog w = .ok (.tuple #[.int .i64 (((Sp.relOf t).getD 0 : Nat) : Int), .bool (Sp.relOf t).isSome]) w := by
 obtain ⟨v, ps, hrun, hv⟩ := World.ownsMap.look_ok h law9 Tryz.underlying143 (zeroRel w) (plainElem_int Tryz.underlying230 (a := 0) (by decide)) (key_of t ht)
 have hw := rels_view t (.lit (.int .i64 0))
 rw [hw.1] at hrun
 rw [hw.2] at hv
 obtain ⟨a, rfl, hc, _⟩ := plainElem_int_inv Tryz.underlying230 hv
 rw [hrun]
 cases ho : Sp.relOf t with
 | none => rw [ho] at hc; simp at hc; simp [← hc.1]
 | some k => rw [ho] at hc; simp at hc; simp [← hc.1]
theorem OpsMap.ext {m b : Nat} {w w' : World} (h : OpsMap m w) (x : Ext b w w') (hb : m ≠ b) : OpsMap m w' := by
 obtain ⟨es, clock, hh, r⟩ := h
 exact ⟨es, clock, x.keep hh hb not_num_map, r⟩
theorem RelsMap.ext {m b : Nat} {w w' : World} (h : RelsMap m w) (x : Ext b w w') (hb : m ≠ b) : RelsMap m w' := by
 obtain ⟨es, clock, hh, r⟩ := h
 exact ⟨es, clock, x.keep hh hb not_num_map, r⟩
end Go.Proofs.YtiopfihjmkfdmaaGreatDoor
namespace Go.Proofs.YtiopfihjmkfdmaaGreatDoor
open Go.RowKit
set_option maxRecDepth 100000
set_option maxHeartbeats 400000
theorem isLetter_calls (c : UInt8) (w : World) :
  Calls Tryz.prog 119 #[.int .u8 c.toNat] w fun e w' => e = .returned (.bool (Sp.isLet c)) ∧ w' = w := by
 go_enter Tryz.func119, Tryz.ntmps119
 go_wp2
 all_goals
  go_ret
  exact ⟨ret_bool (by unfold Sp.isLet; rw [Bool.eq_iff_iff]; simp; omega), rfl⟩
theorem isDigit_calls (c : UInt8) (w : World) :
  Calls Tryz.prog 120 #[.int .u8 c.toNat] w fun e w' => e = .returned (.bool (Sp.isDig c)) ∧ w' = w := by
 go_enter Tryz.func120, Tryz.ntmps120
 go_wp2
 all_goals
  go_ret
  exact ⟨ret_bool (by unfold Sp.isDig; rw [Bool.eq_iff_iff]; simp; omega), rfl⟩
def FirstMeet (p : UInt8 → Bool) (l : Sp.Bs) (k : Nat) : Prop := ∀ j c, j < k → l[j]? = some c → p c = true
theorem FirstMeet.succ {p : UInt8 → Bool} {s : ByteArray} {k : Nat} (h : FirstMeet p s.data.toList k) (hk : k < s.size) (hp : p s[k] = true) : FirstMeet p s.data.toList (k + 1) := by
 intro j c hj hc
 by_cases e : j = k
 ·subst e
  have : s.data.toList[j]? = some s[j] := by
   rw [Array.getElem?_toList]; exact Array.getElem?_eq_getElem hk
  rw [this] at hc
  cases hc; exact hp
 ·exact h j c (by omega) hc
theorem headRun_of (p : UInt8 → Bool) : ∀ (l : Sp.Bs) (k : Nat), k ≤ l.length → FirstMeet p l k → (∀ c, l[k]? = some c → p c = false) → Sp.headRun p l = k
 | [], k, hk, _, _ => by simp at hk; subst hk; rfl
 | c :: r, 0, _, _, hs => by
  rw [Sp.headRun_cons, hs c (by simp)]; rfl
 | c :: r, k + 1, hk, hm, hs => by
  rw [Sp.headRun_cons, hm 0 c (by omega) (by simp)]
  have := headRun_of p r k (by simpa using hk) (fun j d hj hd => hm (j + 1) d (by omega) (by simpa using hd)) (fun d hd => hs d (by simpa using hd))
  simp [this]
theorem byte_at (s : ByteArray) (k : Nat) (h : k < s.size) : s.data.toList[k]? = some s[k] := by
 rw [Array.getElem?_toList]; exact Array.getElem?_eq_getElem h
theorem byte_none (s : ByteArray) (k : Nat) (h : ¬ k < s.size) : s.data.toList[k]? = none := by
 rw [Array.getElem?_toList]; exact Array.getElem?_eq_none (by have : s.data.size = s.size := rfl; omega)
theorem run_calls_letters (s : ByteArray) (w : World) (hs : s.size ≤ 400) :
  Calls Tryz.prog 118 #[.string s, .func (Fn.func 119) #[] #[]] w fun e w' => e = .returned (.int .i64 (Sp.headRun Sp.isLet s.data.toList)) ∧ w' = w := by
 go_enter Tryz.func118, Tryz.ntmps118
 go_wp2
 go_loop [5] (fun n => ∃ k : Nat, k ≤ s.size ∧ Hid (FirstMeet Sp.isLet s.data.toList k) ∧ n = .int .i64 k) (fun i => s.size - (intOf i).toNat)
 case atStart => exact ⟨0, Nat.zero_le _, fun _ _ h => absurd h (Nat.not_lt_zero _), rfl⟩
 case round =>
  obtain ⟨k, hk, hm, rfl⟩ := hrel
  by_cases hlt : k < s.size
  ·go_wp2_with fail
   refine (isLetter_calls s[k] _).mono ?_
   rintro e w' ⟨rfl, rfl⟩
   by_cases hpk : Sp.isLet s[k] = true
   ·have hm1 : Hid (FirstMeet Sp.isLet s.data.toList (k + 1)) := hm.out.succ hlt hpk
    go_wp2
    go_round
    case rel => exact ⟨k + 1, by omega, hm1, by go_num⟩
    case measure => simp [intOf]; omega
   ·have hpk' : Sp.isLet s[k] = false := by simpa using hpk
    have hr : Hid (Sp.headRun Sp.isLet s.data.toList = k) := headRun_of _ _ _ (by simpa using hk) hm.out (fun c hc => by rw [byte_at s k hlt] at hc; cases hc; exact hpk')
    go_wp2
    go_ret
    exact ⟨ret_int (by rw [hr.out]), rfl⟩
  ·have hr : Hid (Sp.headRun Sp.isLet s.data.toList = k) := headRun_of _ _ _ (by simpa using hk) hm.out (fun c hc => by rw [byte_none s k hlt] at hc; cases hc)
   go_wp2
   go_ret
   exact ⟨ret_int (by rw [hr.out]), rfl⟩
theorem run_calls_digits (s : ByteArray) (w : World) (hs : s.size ≤ 400) :
  Calls Tryz.prog 118 #[.string s, .func (Fn.func 120) #[] #[]] w fun e w' => e = .returned (.int .i64 (Sp.headRun Sp.isDig s.data.toList)) ∧ w' = w := by
 go_enter Tryz.func118, Tryz.ntmps118
 go_wp2
 go_loop [5] (fun n => ∃ k : Nat, k ≤ s.size ∧ Hid (FirstMeet Sp.isDig s.data.toList k) ∧ n = .int .i64 k) (fun i => s.size - (intOf i).toNat)
 case atStart => exact ⟨0, Nat.zero_le _, fun _ _ h => absurd h (Nat.not_lt_zero _), rfl⟩
 case round =>
  obtain ⟨k, hk, hm, rfl⟩ := hrel
  by_cases hlt : k < s.size
  ·go_wp2_with fail
   refine (isDigit_calls s[k] _).mono ?_
   rintro e w' ⟨rfl, rfl⟩
   by_cases hpk : Sp.isDig s[k] = true
   ·have hm1 : Hid (FirstMeet Sp.isDig s.data.toList (k + 1)) := hm.out.succ hlt hpk
    go_wp2
    go_round
    case rel => exact ⟨k + 1, by omega, hm1, by go_num⟩
    case measure => simp [intOf]; omega
   ·have hpk' : Sp.isDig s[k] = false := by simpa using hpk
    have hr : Hid (Sp.headRun Sp.isDig s.data.toList = k) := headRun_of _ _ _ (by simpa using hk) hm.out (fun c hc => by rw [byte_at s k hlt] at hc; cases hc; exact hpk')
    go_wp2
    go_ret
    exact ⟨ret_int (by rw [hr.out]), rfl⟩
  ·have hr : Hid (Sp.headRun Sp.isDig s.data.toList = k) := headRun_of _ _ _ (by simpa using hk) hm.out (fun c hc => by rw [byte_none s k hlt] at hc; cases hc)
   go_wp2
   go_ret
   exact ⟨ret_int (by rw [hr.out]), rfl⟩
theorem idx_yes (t : ByteArray) (c : UInt8) (w : World) (h : c ∈ t.data.toList) :
  Calls Tryz.prog 163 #[.string t, .int .u8 c.toNat] w fun e w' => ∃ n : Nat, e = .returned (.int .i64 n) ∧ w' = w := by
 refine (Tryz.strings_IndexByte t c.toNat w).mono ?_
 rintro e w' ⟨rfl, rfl⟩
 have hc : ((c.toNat : Int)).toNat.toUInt8 = c := by simp
 have := Lib.contains_iff_indexByte t.data.toList c
 rw [List.contains_iff_mem.2 h] at this
 have h0 : 0 ≤ Lib.indexByte t.data.toList c := by simpa using this.symm
 exact ⟨(Lib.indexByte t.data.toList c).toNat, by rw [hc, Int.toNat_of_nonneg h0], rfl⟩
theorem idx_no (t : ByteArray) (c : UInt8) (w : World) (h : c ∉ t.data.toList) :
  Calls Tryz.prog 163 #[.string t, .int .u8 c.toNat] w fun e w' => e = .returned (.int .i64 (-1)) ∧ w' = w := by
 refine (Tryz.strings_IndexByte t c.toNat w).mono ?_
 rintro e w' ⟨rfl, rfl⟩
 have hc : ((c.toNat : Int)).toNat.toUInt8 = c := by simp
 have := Lib.contains_iff_indexByte t.data.toList c
 have hn : t.data.toList.contains c = false := by
  cases hh : t.data.toList.contains c
  ·rfl
  ·exact absurd (List.contains_iff_mem.1 hh) h
 rw [hn] at this
 have h0 : ¬ 0 ≤ Lib.indexByte t.data.toList c := by simpa using this.symm
 have h1 := Lib.indexByte_ge t.data.toList c
 exact ⟨ret_int (by rw [hc]; omega), rfl⟩
theorem signLen_one (s : ByteArray) (h0 : 0 < s.size) (h1 : ¬ 1 < s.size) : Sp.signLen s.data.toList = if s[0] ∈ Sp.ones then 1 else 0 := by
 have e : s.data.toList = [s[0]] := by
  apply List.ext_getElem?
  intro i
  match i with
  | 0 => rw [byte_at s 0 h0]; rfl
  | i + 1 => rw [byte_none s (i + 1) (by omega)]; rfl
 rw [e, Sp.signLen_cons]
 simp
theorem signLen_more (s : ByteArray) (h1 : 1 < s.size) : Sp.signLen s.data.toList = if s[1].toNat = 61 ∧ s[0] ∈ Sp.twos then 2 else if s[0] ∈ Sp.ones then 1 else 0 := by
 obtain ⟨c, r, e⟩ : ∃ c r, s.data.toList = c :: r := by
  cases h : s.data.toList with
  | nil => have := byte_at s 0 (by omega); rw [h] at this; cases this
  | cons c r => exact ⟨c, r, rfl⟩
 have h0' := byte_at s 0 (by omega)
 have h1' := byte_at s 1 h1
 rw [e] at h0' h1' ⊢
 simp at h0' h1'
 have e1 : s[1].toNat = 61 ↔ s[1] = 61 := ⟨fun h => UInt8.toNat_inj.1 h, fun h => by rw [h]; rfl⟩
 rw [Sp.signLen_cons, List.head?_eq_getElem?, h1', h0']
 simp only [Option.some.injEq, e1]
theorem signSize_calls (s : ByteArray) (w : World) (h0 : 0 < s.size) (hs : s.size ≤ 400) :
  Calls Tryz.prog 121 #[.string s] w fun e w' => e = .returned (.int .i64 (Sp.signLen s.data.toList)) ∧ w' = w := by
 by_cases h1 : 1 < s.size
 ·have hf : Hid (Sp.signLen s.data.toList = if s[1].toNat = 61 ∧ s[0] ∈ Sp.twos then 2 else if s[0] ∈ Sp.ones then 1 else 0) := signLen_more s h1
  by_cases h2 : s[1].toNat = 61
  ·by_cases h3 : s[0] ∈ Sp.twos
   ·have hr : Hid (Sp.signLen s.data.toList = 2) := by unfold Hid; rw [hf.out, if_pos ⟨h2, h3⟩]
    have H3 := h3
    clear hf h3
    go_enter Tryz.func121, Tryz.ntmps121
    go_wp2_with fail
    refine (idx_yes _ _ _ H3).mono ?_
    rintro e w' ⟨n, rfl, rfl⟩
    go_wp2_with fail
    go_ret
    exact ⟨ret_int (by rw [hr.out]; rfl), rfl⟩
   ·by_cases h4 : s[0] ∈ Sp.ones
    ·have hr : Hid (Sp.signLen s.data.toList = 1) := by unfold Hid; rw [hf.out, if_neg (fun h => h3 h.2), if_pos h4]
     have H3 := h3
     have H4 := h4
     clear hf h3 h4
     go_enter Tryz.func121, Tryz.ntmps121
     go_wp2_with fail
     refine (idx_no _ _ _ H3).mono ?_
     rintro e w' ⟨rfl, rfl⟩
     go_wp2_with fail
     refine (idx_yes _ _ _ H4).mono ?_
     rintro e w' ⟨n, rfl, rfl⟩
     go_wp2_with fail
     go_ret
     exact ⟨ret_int (by rw [hr.out]; rfl), rfl⟩
    ·have hr : Hid (Sp.signLen s.data.toList = 0) := by unfold Hid; rw [hf.out, if_neg (fun h => h3 h.2), if_neg h4]
     have H3 := h3
     have H4 := h4
     clear hf h3 h4
     go_enter Tryz.func121, Tryz.ntmps121
     go_wp2_with fail
     refine (idx_no _ _ _ H3).mono ?_
     rintro e w' ⟨rfl, rfl⟩
     go_wp2_with fail
     refine (idx_no _ _ _ H4).mono ?_
     rintro e w' ⟨rfl, rfl⟩
     go_wp2_with fail
     go_ret
     exact ⟨ret_int (by rw [hr.out]; rfl), rfl⟩
  ·have h2' : ¬ ((s[1].toNat : Int) = 61) := by omega
   by_cases h4 : s[0] ∈ Sp.ones
   ·have hr : Hid (Sp.signLen s.data.toList = 1) := by unfold Hid; rw [hf.out, if_neg (fun h => h2 h.1), if_pos h4]
    have H4 := h4
    clear hf h4 h2
    go_enter Tryz.func121, Tryz.ntmps121
    go_wp2_with fail
    refine (idx_yes _ _ _ H4).mono ?_
    rintro e w' ⟨n, rfl, rfl⟩
    go_wp2_with fail
    go_ret
    exact ⟨ret_int (by rw [hr.out]; rfl), rfl⟩
   ·have hr : Hid (Sp.signLen s.data.toList = 0) := by unfold Hid; rw [hf.out, if_neg (fun h => h2 h.1), if_neg h4]
    have H4 := h4
    clear hf h4 h2
    go_enter Tryz.func121, Tryz.ntmps121
    go_wp2_with fail
    refine (idx_no _ _ _ H4).mono ?_
    rintro e w' ⟨rfl, rfl⟩
    go_wp2_with fail
    go_ret
    exact ⟨ret_int (by rw [hr.out]; rfl), rfl⟩
 ·have hf : Hid (Sp.signLen s.data.toList = if s[0] ∈ Sp.ones then 1 else 0) := signLen_one s h0 h1
  by_cases h4 : s[0] ∈ Sp.ones
  ·have hr : Hid (Sp.signLen s.data.toList = 1) := by unfold Hid; rw [hf.out, if_pos h4]
   have H4 := h4
   clear hf h4
   go_enter Tryz.func121, Tryz.ntmps121
   go_wp2_with fail
   refine (idx_yes _ _ _ H4).mono ?_
   rintro e w' ⟨n, rfl, rfl⟩
   go_wp2_with fail
   go_ret
   exact ⟨ret_int (by rw [hr.out]; rfl), rfl⟩
  ·have hr : Hid (Sp.signLen s.data.toList = 0) := by unfold Hid; rw [hf.out, if_neg h4]
   have H4 := h4
   clear hf h4
   go_enter Tryz.func121, Tryz.ntmps121
   go_wp2_with fail
   refine (idx_no _ _ _ H4).mono ?_
   rintro e w' ⟨rfl, rfl⟩
   go_wp2_with fail
   go_ret
   exact ⟨ret_int (by rw [hr.out]; rfl), rfl⟩
end Go.Proofs.YtiopfihjmkfdmaaGreatDoor
