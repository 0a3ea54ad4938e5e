import Derived.Test.YtiopfihjmkfdmaaGreatDoorS3
import Derived.Maps.OwnSet
namespace Go.Proofs.YtiopfihjmkfdmaaGreatDoor
open Go.RowKit
set_option maxRecDepth 100000
set_option maxHeartbeats 400000
theorem take_ok {b : Nat} {s : ByteArray} {m1 m2 : Nat} {l : Sp.Bs} {o : Nat} {ct : Int × Int} {w : World} (h : Rd b s m1 m2 l o ct w) (t : Sp.Bs) (ht : Sp.tok l = t) (hd : t.head?.any Sp.isDig = false := by decide) :
  Calls Tryz.prog 202 #[.pointer (some ⟨b, 0, none⟩), .string ⟨t.toArray⟩] w fun e w' => e = .returned (.tuple #[]) ∧ Rd b s m1 m2 (Sp.next l) o ct w' ∧ Ext b w w' := by
 go_enter Tryz.func202, Tryz.ntmps202
 go_wp2_with fail
 refine (need_ok h t ht).mono ?_
 rintro e w' ⟨rfl, rfl⟩
 go_wp2_with fail
 refine (step_calls h (Sp.kind_of_tok ht hd)).mono ?_
 rintro e w' ⟨rfl, h1, x1⟩
 go_wp2_with fail
 go_end0
 exact ⟨rfl, h1, x1⟩
theorem take_bad {b : Nat} {s : ByteArray} {m1 m2 : Nat} {l : Sp.Bs} {o : Nat} {ct : Int × Int} {w : World} (h : Rd b s m1 m2 l o ct w) (t : Sp.Bs) (ht : Sp.tok l ≠ t) :
  Calls Tryz.prog 202 #[.pointer (some ⟨b, 0, none⟩), .string ⟨t.toArray⟩] w fun e w' => Faulty s b w (2, l.length) e w' := by
 go_enter Tryz.func202, Tryz.ntmps202
 go_wp2_with fail
 refine (need_bad h t ht).mono ?_
 rintro e w' hf
 obtain ⟨N, rfl, hr⟩ := hf
 exact ⟨rfl, N, rfl, hr⟩
theorem rd_open {b : Nat} {s : ByteArray} {m1 m2 : Nat} {l : Sp.Bs} {o : Nat} {ct : Int × Int} {w : World} (h : Rd b s m1 m2 l o ct w) (o' : Nat) (oi : Int) (ho : oi = o') :
  Rd b s m1 m2 l o' ct (w.setCell ⟨b, 4, none⟩ (.int .i64 oi)) ∧ Ext b w (w.setCell ⟨b, 4, none⟩ (.int .i64 oi)) := by
 subst ho
 obtain ⟨nv, ns, h, hl⟩ := h
 exact ⟨⟨nv, ns, h.own 4 (.int .i64 o') h.suf rfl, hl⟩, (Ext.refl b w).setCell (p := ⟨b, 4, none⟩) (.inl rfl) _⟩
theorem enter_bad {b : Nat} {s : ByteArray} {m1 m2 : Nat} {l : Sp.Bs} {o : Nat} {ct : Int × Int} {w : World} (h : Rd b s m1 m2 l o ct w) (t : Sp.Bs) (ht : Sp.tok l ≠ t) :
  Calls Tryz.prog 233 #[.pointer (some ⟨b, 0, none⟩), .string ⟨t.toArray⟩] w fun e w' => Faulty s b w (2, l.length) e w' := by
 go_enter Tryz.func233, Tryz.ntmps233
 go_wp2_with fail
 refine (need_bad h t ht).mono ?_
 rintro e w' hf
 obtain ⟨N, rfl, hr⟩ := hf
 exact ⟨rfl, N, rfl, hr⟩
theorem enter_deep {b : Nat} {s : ByteArray} {m1 m2 : Nat} {l : Sp.Bs} {ct : Int × Int} {w : World} (h : Rd b s m1 m2 l 12 ct w) (t : Sp.Bs) (ht : Sp.tok l = t) :
  Calls Tryz.prog 233 #[.pointer (some ⟨b, 0, none⟩), .string ⟨t.toArray⟩] w fun e w' => Faulty s b w (3, l.length) e w' := by
 have h4 : w.cell? ⟨b, 4, none⟩ = some (.int .i64 12) := h.c4
 go_enter Tryz.func233, Tryz.ntmps233
 go_wp2_with fail
 refine (need_ok h t ht).mono ?_
 rintro e w' ⟨rfl, rfl⟩
 go_wp2_with fail
 refine (fault_calls h 3).mono ?_
 rintro e w' ⟨rfl, rfl⟩
 go_wp2_with fail
 exact ⟨rfl, faulty_of h 3 3 rfl⟩
theorem enter_ok {b : Nat} {s : ByteArray} {m1 m2 : Nat} {l : Sp.Bs} {o : Nat} {ct : Int × Int} {w : World} (h : Rd b s m1 m2 l o ct w) (ho : o < 12) (t : Sp.Bs) (ht : Sp.tok l = t) (hd : t.head?.any Sp.isDig = false := by decide) :
  Calls Tryz.prog 233 #[.pointer (some ⟨b, 0, none⟩), .string ⟨t.toArray⟩] w fun e w' => e = .returned (.tuple #[]) ∧ Rd b s m1 m2 (Sp.next l) (o + 1) ct w' ∧ Ext b w w' := by
 have h4 := h.c4
 have f4 := h.fz 4
 have hne : ((o : Int) == 12) = false := by simp; omega
 have hr := rd_open h (o + 1) ((o : Int) + 1) (by omega)
 obtain ⟨h1, x1⟩ := hr
 have H1 : Hid (Rd b s m1 m2 l (o + 1) ct (w.setCell ⟨b, 4, none⟩ (.int .i64 ((o : Int) + 1)))) := h1
 clear h1
 go_enter Tryz.func233, Tryz.ntmps233
 go_wp2_with fail
 refine (need_ok h t ht).mono ?_
 rintro e w' ⟨rfl, rfl⟩
 go_wp2_with fail
 refine (step_calls H1.out (Sp.kind_of_tok ht hd)).mono ?_
 rintro e w' ⟨rfl, h2, x2⟩
 go_wp2_with fail
 go_end0
 exact ⟨rfl, h2, x1.trans x2⟩
theorem rd_point {b : Nat} {s : ByteArray} {m1 m2 : Nat} {l : Sp.Bs} {o : Nat} {ct : Int × Int} {w : World} (h : Rd b s m1 m2 l o ct w) (p : Int) :
  Rd b s m1 m2 l o (p, ct.2) (w.setCell ⟨b, 5, none⟩ (.int .i64 p)) ∧ Ext b w (w.setCell ⟨b, 5, none⟩ (.int .i64 p)) := by
 obtain ⟨nv, ns, h, hl⟩ := h
 exact ⟨⟨nv, ns, h.own 5 (.int .i64 p) h.suf rfl, hl⟩, (Ext.refl b w).setCell (p := ⟨b, 5, none⟩) (.inl rfl) _⟩
theorem rd_site {b : Nat} {s : ByteArray} {m1 m2 : Nat} {l : Sp.Bs} {o : Nat} {ct : Int × Int} {w : World} (h : Rd b s m1 m2 l o ct w) (q : Int) :
  Rd b s m1 m2 l o (ct.1, q) (w.setCell ⟨b, 6, none⟩ (.int .i64 q)) ∧ Ext b w (w.setCell ⟨b, 6, none⟩ (.int .i64 q)) := by
 obtain ⟨nv, ns, h, hl⟩ := h
 exact ⟨⟨nv, ns, h.own 6 (.int .i64 q) h.suf rfl, hl⟩, (Ext.refl b w).setCell (p := ⟨b, 6, none⟩) (.inl rfl) _⟩
theorem site_calls {b : Nat} {s : ByteArray} {m1 m2 : Nat} {l : Sp.Bs} {o : Nat} {ct : Int × Int} {w : World} (h : Rd b s m1 m2 l o ct w) :
  Calls Tryz.prog 204 #[.pointer (some ⟨b, 0, none⟩)] w fun e w' => e = .returned (.int .i64 ct.2) ∧ Rd b s m1 m2 l o (ct.1, RowKit.wrap64 (ct.2 + 1)) w' ∧ Ext b w w' := by
 have h6 := h.c6
 have f6 := h.fz 6
 obtain ⟨h1, x1⟩ := rd_site h (RowKit.wrap64 (ct.2 + 1))
 have H1 : Hid (Rd b s m1 m2 l o (ct.1, RowKit.wrap64 (ct.2 + 1)) (w.setCell ⟨b, 6, none⟩ (.int .i64 (RowKit.wrap64 (ct.2 + 1))))) := h1
 clear h1
 go_enter Tryz.func204, Tryz.ntmps204
 go_wp2_with fail
 go_ret
 exact ⟨rfl, H1.out, x1⟩
theorem nameVal_some {l : Sp.Bs} {k : Nat} (h : Sp.nameVal l = some k) : ∃ c : UInt8, Sp.tok l = [c] ∧ Sp.tokKind l = 2 ∧ c.toNat < 105 ∧ 97 ≤ c.toNat ∧ k = c.toNat - 97 := by
 unfold Sp.nameVal at h
 split at h
 ·rename_i c e
  split at h
  ·rename_i hc
   cases h
   refine ⟨c, e, hc.1, hc.2, ?_, rfl⟩
   cases l with
   | nil => simp [Sp.tokKind] at hc
   | cons d r =>
    rw [Sp.tokKind_cons] at hc
    have hd : Sp.isLet d = true := by
     by_cases hd : Sp.isLet d = true
     ·exact hd
     ·simp [hd] at hc
      split at hc
      ·omega
      ·split at hc <;> omega
    have : Sp.tok (d :: r) = d :: (r.take (Sp.headRun Sp.isLet r)) := by
     unfold Sp.tok
     rw [Sp.tokLen_cons, if_pos hd, Sp.headRun_cons, if_pos hd, List.take_succ_cons]
    rw [this] at e
    have e1 : d = c := (List.cons.inj e).1
    subst e1
    unfold Sp.isLet at hd
    simp at hd
    omega
  ·cases h
 ·cases h
theorem one_byte (c : UInt8) : ∃ t : ByteArray, t = ⟨[c].toArray⟩ ∧ t.size = 1 ∧ ∀ h : 0 < t.size, t[0] = c := ⟨⟨[c].toArray⟩, rfl, rfl, fun _ => rfl⟩
theorem name_ok {b : Nat} {s : ByteArray} {m1 m2 : Nat} {l : Sp.Bs} {o : Nat} {ct : Int × Int} {w : World} (h : Rd b s m1 m2 l o ct w) {k : Nat} (hk : Sp.nameVal l = some k) :
  Calls Tryz.prog 203 #[.pointer (some ⟨b, 0, none⟩)] w fun e w' => e = .returned (.int .i64 k) ∧ Rd b s m1 m2 (Sp.next l) o ct w' ∧ Ext b w w' := by
 obtain ⟨c, ht, hkd, hc1, hc2, rfl⟩ := nameVal_some hk
 obtain ⟨t, et, hs1, hx⟩ := one_byte c
 have h0 : 0 < t.size := by omega
 have h2 : w.cell? ⟨b, 2, none⟩ = some (.int .i64 2) := by rw [h.c2, hkd]; rfl
 have h3 : w.cell? ⟨b, 3, none⟩ = some (.string t) := by rw [h.c3, ht, et]
 have hc3 : (t[0].toNat : Int) < 105 := by rw [hx]; omega
 have hc4 : (97 : Int) ≤ (t[0].toNat : Int) := by rw [hx]; omega
 have hfin : Hid (((c.toNat - 97 : Nat) : Int) = (t[0].toNat : Int) - 97) := by unfold Hid; rw [hx]; omega
 have hd : decide ((105 : Int) ≤ (t[0].toNat : Int)) = false := by simp; omega
 have HK3 : Hid (Sp.tokKind l ≠ 3) := by unfold Hid; omega
 clear hx et hk hc1 hc2 hkd ht
 go_enter Tryz.func203, Tryz.ntmps203
 go_wp2_with fail
 refine (step_calls h HK3.out).mono ?_
 rintro e w' ⟨rfl, h1, x1⟩
 go_wp2_with fail
 go_ret
 exact ⟨ret_int (by rw [hfin.out]), h1, x1⟩
theorem name_bad {b : Nat} {s : ByteArray} {m1 m2 : Nat} {l : Sp.Bs} {o : Nat} {ct : Int × Int} {w : World} (h : Rd b s m1 m2 l o ct w) (hk : Sp.nameVal l = none) :
  Calls Tryz.prog 203 #[.pointer (some ⟨b, 0, none⟩)] w fun e w' => Faulty s b w (2, l.length) e w' := by
 have h2 := h.c2
 have h3 := h.c3
 by_cases hkd : Sp.tokKind l = 2
 ·by_cases hln : (Sp.tok l).length = 1
  ·obtain ⟨c, ht⟩ : ∃ c, Sp.tok l = [c] := by
    match hm : Sp.tok l, hln with
    | [c], _ => exact ⟨c, rfl⟩
   obtain ⟨t, et, hs1, hx⟩ := one_byte c
   have h0 : 0 < t.size := by omega
   have hge : 105 ≤ c.toNat := by
    unfold Sp.nameVal at hk
    rw [ht] at hk
    simp [hkd] at hk
    omega
   rw [hkd] at h2
   have h2' : w.cell? ⟨b, 2, none⟩ = some (.int .i64 2) := h2
   rw [ht, ← et] at h3
   have hd : decide ((105 : Int) ≤ (t[0].toNat : Int)) = true := by simp; rw [hx]; omega
   have hd' : (105 : Int) ≤ (t[0].toNat : Int) := by simpa using hd
   clear h2 hx et ht hge hk hkd hln
   go_enter Tryz.func203, Tryz.ntmps203
   go_wp2_with fail
   refine (fault_calls h 2).mono ?_
   rintro e w' ⟨rfl, rfl⟩
   go_wp2_with fail
   exact ⟨rfl, faulty_of h 2 2 rfl⟩
  ·rw [hkd] at h2
   have h2' : w.cell? ⟨b, 2, none⟩ = some (.int .i64 2) := h2
   generalize et : (⟨(Sp.tok l).toArray⟩ : ByteArray) = t at h3
   have hs1 : ((t.size : Int) == 1) = false := by
    rw [← et]
    have : (⟨(Sp.tok l).toArray⟩ : ByteArray).size = (Sp.tok l).length := by simp [ByteArray.size]
    rw [this]; simp; omega
   have hs2 : ¬ ((t.size : Int) = 1) := by simpa using hs1
   clear h2 et hk hkd hln
   go_enter Tryz.func203, Tryz.ntmps203
   go_wp2_with fail
   refine (fault_calls h 2).mono ?_
   rintro e w' ⟨rfl, rfl⟩
   go_wp2_with fail
   exact ⟨rfl, faulty_of h 2 2 rfl⟩
 ·have hb : (((Sp.tokKind l : Nat) : Int) == 2) = false := by simp; omega
  have hb2 : ¬ (((Sp.tokKind l : Nat) : Int) = 2) := by omega
  clear hk hkd
  generalize Sp.tokKind l = kd at h2 hb hb2
  go_enter Tryz.func203, Tryz.ntmps203
  go_wp2_with fail
  refine (fault_calls h 2).mono ?_
  rintro e w' ⟨rfl, rfl⟩
  go_wp2_with fail
  exact ⟨rfl, faulty_of h 2 2 rfl⟩
end Go.Proofs.YtiopfihjmkfdmaaGreatDoor
namespace Go.Proofs.YtiopfihjmkfdmaaGreatDoor
open Go.RowKit Go.WideMaps Go.Maps
set_option maxRecDepth 100000
set_option maxHeartbeats 400000
structure Laid (w : World) : Prop where
 size : 11 ≤ w.heap.size
 ops : ∀ k, k < 5 → w.cell? ⟨1, k, none⟩ = some (.string ⟨(Sp.opSign k).toArray⟩)
 rels : ∀ k, k < 6 → w.cell? ⟨2, k, none⟩ = some (.string ⟨(Sp.relSign k).toArray⟩)
 errS : ∃ tp p, w.cell? ⟨9, 0, none⟩ = some (.iface tp p)
 errR : ∃ tp p, w.cell? ⟨10, 0, none⟩ = some (.iface tp p)
 pow : Lib.TabIs Tryz.prog w "internal/strconv.uint64pow10" .u64 Lib.pow10Tab
theorem opSign_calls (k : Nat) (hk : k < 5) (w : World) (h : w.cell? ⟨1, k, none⟩ = some (.string ⟨(Sp.opSign k).toArray⟩)) :
  Calls Tryz.prog 87 #[.int .i64 k] w fun e w' => e = .returned (.string ⟨(Sp.opSign k).toArray⟩) ∧ w' = w := by
 generalize (⟨(Sp.opSign k).toArray⟩ : ByteArray) = t at *
 go_enter Tryz.func87, Tryz.ntmps87
 go_wp2_with fail
 go_ret
 exact ⟨rfl, rfl⟩
theorem relSign_calls (k : Nat) (hk : k < 6) (w : World) (h : w.cell? ⟨2, k, none⟩ = some (.string ⟨(Sp.relSign k).toArray⟩)) :
  Calls Tryz.prog 88 #[.int .i64 k] w fun e w' => e = .returned (.string ⟨(Sp.relSign k).toArray⟩) ∧ w' = w := by
 generalize (⟨(Sp.relSign k).toArray⟩ : ByteArray) = t at *
 go_enter Tryz.func88, Tryz.ntmps88
 go_wp2_with fail
 go_ret
 exact ⟨rfl, rfl⟩
theorem hasSite_calls (k : Nat) (hk : k < 5) (w : World) :
  Calls Tryz.prog 240 #[.int .i64 k] w fun e w' => e = .returned (.bool (decide (3 ≤ k))) ∧ w' = w := by
 have hk' : k = 3 ∨ k = 4 ∨ (k < 3 ∧ ¬ ((k : Int) = 3) ∧ ¬ ((k : Int) = 4)) := by omega
 rcases hk' with rfl | rfl | ⟨h2, h0, h1⟩
 ·go_enter Tryz.func240, Tryz.ntmps240
  go_wp2_with fail
  go_ret
  exact ⟨rfl, rfl⟩
 ·go_enter Tryz.func240, Tryz.ntmps240
  go_wp2_with fail
  go_ret
  exact ⟨rfl, rfl⟩
 ·have hl : Hid (decide (3 ≤ k) = false) := by unfold Hid; simp; omega
  clear h2 hk
  go_enter Tryz.func240, Tryz.ntmps240
  go_wp2_with fail
  go_ret
  refine ⟨ret_bool ?_, rfl⟩
  rw [hl.out]
  simp [h0, h1]
theorem opLevel_calls (k : Nat) (hk : k < 5) (w : World) :
  Calls Tryz.prog 172 #[.int .i64 k] w fun e w' => e = .returned (.int .i64 (Sp.opLevel k)) ∧ w' = w := by
 have hk' : k = 0 ∨ k = 1 ∨ (2 ≤ k ∧ ¬ ((k : Int) = 0) ∧ ¬ ((k : Int) = 1)) := by omega
 rcases hk' with rfl | rfl | ⟨h2, h0, h1⟩
 ·go_enter Tryz.func172, Tryz.ntmps172
  go_wp2_with fail
  go_ret
  exact ⟨rfl, rfl⟩
 ·go_enter Tryz.func172, Tryz.ntmps172
  go_wp2_with fail
  go_ret
  exact ⟨rfl, rfl⟩
 ·have hl : Hid (Sp.opLevel k = 1) := by unfold Hid Sp.opLevel; rw [if_neg (by omega)]
  have b0 : ((k : Int) == 0) = false := by simp; omega
  have b1 : ((k : Int) == 1) = false := by simp; omega
  go_enter Tryz.func172, Tryz.ntmps172
  go_wp2_with fail
  go_ret
  exact ⟨ret_int (by rw [hl.out]; rfl), rfl⟩
theorem law9 : Keyed Tryz.prog 9 := string_keyed Tryz.underlying9
theorem zeroOp (w : World) : (zeroValue 229).run Tryz.prog w = .ok (.int .i64 0) w := by kernel_rfl
theorem zeroRel (w : World) : (zeroValue 230).run Tryz.prog w = .ok (.int .i64 0) w := by kernel_rfl
def opsD : Nat → DataW Unit
 | 0 => .map []
 | k + 1 => (opsD k).put (.string (Sp.opSign k)) (.lit (.int .i64 k))
def relsD : Nat → DataW Unit
 | 0 => .map []
 | k + 1 => (relsD k).put (.string (Sp.relSign k)) (.lit (.int .i64 k))
def OpsMap (m : Nat) (w : World) : Prop := w.ownsMap Tryz.prog 9 (plainElem (H := Unit) Tryz.prog 229) m 5 (opsD 5)
def RelsMap (m : Nat) (w : World) : Prop := w.ownsMap Tryz.prog 9 (plainElem (H := Unit) Tryz.prog 230) m 6 (relsD 6)
theorem key_of (t : Sp.Bs) (h : t.length ≤ 400) : keyOf Tryz.prog 9 (.string ⟨t.toArray⟩) = some (.string t) := by
 have := keyOf_string_mk (P := Tryz.prog) (s := ⟨t.toArray⟩) Tryz.underlying9 (by show t.toArray.size ≤ maxLen; unfold maxLen; simp; omega)
 simpa using this
theorem opSign_len (k : Nat) : (Sp.opSign k).length ≤ 400 := by unfold Sp.opSign; split <;> decide
theorem relSign_len (k : Nat) : (Sp.relSign k).length ≤ 400 := by unfold Sp.relSign; split <;> decide
theorem ops_calls (w : World) (hL : Laid w) :
  Calls Tryz.prog 56 #[] w fun e w' => e = .returned (.map (some w.heap.size)) ∧ OpsMap w.heap.size w' ∧ Below w.heap.size w w' := by
 have hmm := @run_makeMap Tryz.prog
 go_enter Tryz.func56, Tryz.ntmps56
 go_wp2_with fail
 go_loopw [2] (fun i wr => ∃ k : Nat, k ≤ 5 ∧ i = .int .i64 k ∧ wr.ownsMap Tryz.prog 9 (plainElem (H := Unit) Tryz.prog 229) w.heap.size k (opsD k) ∧ Below w.heap.size w wr)
  (fun i _ => 5 - (intOf i).toNat)
 case atStart => exact ⟨0, Nat.zero_le _, rfl, World.ownsMap_made _ _ _ _, (Below.refl _ _).alloc (Nat.le_refl _) _⟩
 case round =>
  obtain ⟨k, hk, rfl, hown, hnx⟩ := hrel
  by_cases hlt : k < 5
  ·have hc : wr.cell? ⟨1, k, none⟩ = some (.string ⟨(Sp.opSign k).toArray⟩) := by
    rw [hnx.cell (by have := hL.size; show 1 < w.heap.size; omega)]; exact hL.ops k hlt
   have HC : Hid (wr.cell? ⟨1, k, none⟩ = some (.string ⟨(Sp.opSign k).toArray⟩)) := hc
   clear hc
   have hle : (k : Int) ≤ 4 := by omega
   have hkey := key_of (Sp.opSign k) (opSign_len k)
   have hwf : (Lit.int .i64 (k : Int)).wf = true := by have := wrap64_wf (k : Int); rwa [IntWalk.wrap64_in _ (by omega)] at this
   go_wp2_with fail
   refine (opSign_calls k hlt _ HC.out).mono ?_
   rintro e w' ⟨rfl, rfl⟩
   go_wp2_with (first
    | (at_mapUpdate; refine wpList_mapUpdate_own _ rfl _ _ _ 141 rfl 9 229 law9 Tryz.underlying141 _ w.heap.size k _ rfl hown (by unfold maxLen; omega) _ _ _ rfl rfl hkey _ [] (plainElem_int Tryz.underlying229 hwf) ?_)
    | go_in)
   intro w1 hown1 hgrow1
   have R2 := hnx.grown hgrow1 hnx.size (fun j hj => by cases hj; exact Nat.le_refl _)
   clear hgrow1 hown
   go_wp2_with fail
   exact ⟨⟨k + 1, by omega, by go_num, hown1, R2⟩, by simp [intOf]; omega⟩
  ·have hge : ¬ (k : Int) ≤ 4 := by omega
   have e : k = 5 := by omega
   subst e
   go_wp2_with fail
   go_ret
   exact ⟨rfl, hown, hnx⟩
theorem rels_calls (w : World) (hL : Laid w) :
  Calls Tryz.prog 57 #[] w fun e w' => e = .returned (.map (some w.heap.size)) ∧ RelsMap w.heap.size w' ∧ Below w.heap.size w w' := by
 have hmm := @run_makeMap Tryz.prog
 go_enter Tryz.func57, Tryz.ntmps57
 go_wp2_with fail
 go_loopw [2] (fun i wr => ∃ k : Nat, k ≤ 6 ∧ i = .int .i64 k ∧ wr.ownsMap Tryz.prog 9 (plainElem (H := Unit) Tryz.prog 230) w.heap.size k (relsD k) ∧ Below w.heap.size w wr)
  (fun i _ => 6 - (intOf i).toNat)
 case atStart => exact ⟨0, Nat.zero_le _, rfl, World.ownsMap_made _ _ _ _, (Below.refl _ _).alloc (Nat.le_refl _) _⟩
 case round =>
  obtain ⟨k, hk, rfl, hown, hnx⟩ := hrel
  by_cases hlt : k < 6
  ·have hc : wr.cell? ⟨2, k, none⟩ = some (.string ⟨(Sp.relSign k).toArray⟩) := by
    rw [hnx.cell (by have := hL.size; show 2 < w.heap.size; omega)]; exact hL.rels k hlt
   have HC : Hid (wr.cell? ⟨2, k, none⟩ = some (.string ⟨(Sp.relSign k).toArray⟩)) := hc
   clear hc
   have hle : (k : Int) ≤ 5 := by omega
   have hkey := key_of (Sp.relSign k) (relSign_len k)
   have hwf : (Lit.int .i64 (k : Int)).wf = true := by have := wrap64_wf (k : Int); rwa [IntWalk.wrap64_in _ (by omega)] at this
   go_wp2_with fail
   refine (relSign_calls k hlt _ HC.out).mono ?_
   rintro e w' ⟨rfl, rfl⟩
   go_wp2_with (first
    | (at_mapUpdate; refine wpList_mapUpdate_own _ rfl _ _ _ 143 rfl 9 230 law9 Tryz.underlying143 _ w.heap.size k _ rfl hown (by unfold maxLen; omega) _ _ _ rfl rfl hkey _ [] (plainElem_int Tryz.underlying230 hwf) ?_)
    | go_in)
   intro w1 hown1 hgrow1
   have R2 := hnx.grown hgrow1 hnx.size (fun j hj => by cases hj; exact Nat.le_refl _)
   clear hgrow1 hown
   go_wp2_with fail
   exact ⟨⟨k + 1, by omega, by go_num, hown1, R2⟩, by simp [intOf]; omega⟩
  ·have hge : ¬ (k : Int) ≤ 5 := by omega
   have e : k = 6 := by omega
   subst e
   go_wp2_with fail
   go_ret
   exact ⟨rfl, hown, hnx⟩
end Go.Proofs.YtiopfihjmkfdmaaGreatDoor
namespace Go.Proofs.YtiopfihjmkfdmaaGreatDoor
open Go.RowKit Go.WideMaps Go.Maps
set_option maxRecDepth 100000
set_option maxHeartbeats 400000
theorem opsD_isMap : ∀ k, IsMap (opsD k)
 | 0 => isMap_empty
 | k + 1 => (opsD_isMap k).put _ _
theorem relsD_isMap : ∀ k, IsMap (relsD k)
 | 0 => isMap_empty
 | k + 1 => (relsD_isMap k).put _ _
theorem lit_ne {a b : Sp.Bs} (h : a ≠ b) : (Lit.string a) ≠ Lit.string b := fun e => h (Lit.string.inj e)
theorem step_same {D : DataW Unit} (hD : IsMap D) (t : Sp.Bs) (d z : DataW Unit) : Maps.has (D.put (.string t) d) (.string t) = true ∧ (D.put (.string t) d).atKey (.string t) z = d :=
 ⟨has_put_same hD (by simp [WideAt.IsKeyLit]) _, atKey_put_same hD (by simp [WideAt.IsKeyLit]) _ _⟩
theorem step_other {D : DataW Unit} (t u : Sp.Bs) (d z : DataW Unit) (h : u ≠ t) : Maps.has (D.put (.string t) d) (.string u) = Maps.has D (.string u) ∧ (D.put (.string t) d).atKey (.string u) z = D.atKey (.string u) z :=
 ⟨has_put_other (lit_ne h) _, atKey_put_other (lit_ne h) _ _⟩
theorem ops_view (t : Sp.Bs) (z : DataW Unit) : Maps.has (opsD 5) (.string t) = (Sp.opOf t).isSome ∧ (opsD 5).atKey (.string t) z = (match Sp.opOf t with | some k => .lit (.int .i64 (k : Nat)) | none => z) := by
 unfold Sp.opOf
 by_cases h0 : t = [43]
 ·subst h0
  have e4 := step_other (D := opsD 4) (Sp.opSign 4) [43] (.lit (.int .i64 (4 : Nat))) z (by decide)
  have e3 := step_other (D := opsD 3) (Sp.opSign 3) [43] (.lit (.int .i64 (3 : Nat))) z (by decide)
  have e2 := step_other (D := opsD 2) (Sp.opSign 2) [43] (.lit (.int .i64 (2 : Nat))) z (by decide)
  have e1 := step_other (D := opsD 1) (Sp.opSign 1) [43] (.lit (.int .i64 (1 : Nat))) z (by decide)
  have e0 := step_same (opsD_isMap 0) [43] (.lit (.int .i64 (0 : Nat))) z
  exact ⟨(e4.1.trans (e3.1.trans (e2.1.trans (e1.1.trans e0.1)))), (e4.2.trans (e3.2.trans (e2.2.trans (e1.2.trans e0.2))))⟩
 by_cases h1 : t = [45]
 ·subst h1
  have e4 := step_other (D := opsD 4) (Sp.opSign 4) [45] (.lit (.int .i64 (4 : Nat))) z (by decide)
  have e3 := step_other (D := opsD 3) (Sp.opSign 3) [45] (.lit (.int .i64 (3 : Nat))) z (by decide)
  have e2 := step_other (D := opsD 2) (Sp.opSign 2) [45] (.lit (.int .i64 (2 : Nat))) z (by decide)
  have e1 := step_same (opsD_isMap 1) [45] (.lit (.int .i64 (1 : Nat))) z
  exact ⟨(e4.1.trans (e3.1.trans (e2.1.trans e1.1))), (e4.2.trans (e3.2.trans (e2.2.trans e1.2)))⟩
 by_cases h2 : t = [42]
 ·subst h2
  have e4 := step_other (D := opsD 4) (Sp.opSign 4) [42] (.lit (.int .i64 (4 : Nat))) z (by decide)
  have e3 := step_other (D := opsD 3) (Sp.opSign 3) [42] (.lit (.int .i64 (3 : Nat))) z (by decide)
  have e2 := step_same (opsD_isMap 2) [42] (.lit (.int .i64 (2 : Nat))) z
  exact ⟨(e4.1.trans (e3.1.trans e2.1)), (e4.2.trans (e3.2.trans e2.2))⟩
 by_cases h3 : t = [47]
 ·subst h3
  have e4 := step_other (D := opsD 4) (Sp.opSign 4) [47] (.lit (.int .i64 (4 : Nat))) z (by decide)
  have e3 := step_same (opsD_isMap 3) [47] (.lit (.int .i64 (3 : Nat))) z
  exact ⟨(e4.1.trans e3.1), (e4.2.trans e3.2)⟩
 by_cases h4 : t = [37]
 ·subst h4
  have e4 := step_same (opsD_isMap 4) [37] (.lit (.int .i64 (4 : Nat))) z
  exact ⟨ e4.1,  e4.2⟩
 have e4 := step_other (D := opsD 4) (Sp.opSign 4) t (.lit (.int .i64 (4 : Nat))) z h4
 have e3 := step_other (D := opsD 3) (Sp.opSign 3) t (.lit (.int .i64 (3 : Nat))) z h3
 have e2 := step_other (D := opsD 2) (Sp.opSign 2) t (.lit (.int .i64 (2 : Nat))) z h2
 have e1 := step_other (D := opsD 1) (Sp.opSign 1) t (.lit (.int .i64 (1 : Nat))) z h1
 have e0 := step_other (D := opsD 0) (Sp.opSign 0) t (.lit (.int .i64 (0 : Nat))) z h0
 rw [if_neg h0, if_neg h1, if_neg h2, if_neg h3, if_neg h4]
 exact ⟨(e4.1.trans (e3.1.trans (e2.1.trans (e1.1.trans (e0.1.trans rfl))))), (e4.2.trans (e3.2.trans (e2.2.trans (e1.2.trans (e0.2.trans rfl)))))⟩
theorem rels_view (t : Sp.Bs) (z : DataW Unit) : Maps.has (relsD 6) (.string t) = (Sp.relOf t).isSome ∧ (relsD 6).atKey (.string t) z = (match Sp.relOf t with | some k => .lit (.int .i64 (k : Nat)) | none => z) := by
 unfold Sp.relOf
 by_cases h0 : t = [60]
 ·subst h0
  have e5 := step_other (D := relsD 5) (Sp.relSign 5) [60] (.lit (.int .i64 (5 : Nat))) z (by decide)
  have e4 := step_other (D := relsD 4) (Sp.relSign 4) [60] (.lit (.int .i64 (4 : Nat))) z (by decide)
  have e3 := step_other (D := relsD 3) (Sp.relSign 3) [60] (.lit (.int .i64 (3 : Nat))) z (by decide)
  have e2 := step_other (D := relsD 2) (Sp.relSign 2) [60] (.lit (.int .i64 (2 : Nat))) z (by decide)
  have e1 := step_other (D := relsD 1) (Sp.relSign 1) [60] (.lit (.int .i64 (1 : Nat))) z (by decide)
  have e0 := step_same (relsD_isMap 0) [60] (.lit (.int .i64 (0 : Nat))) z
  exact ⟨(e5.1.trans (e4.1.trans (e3.1.trans (e2.1.trans (e1.1.trans e0.1))))), (e5.2.trans (e4.2.trans (e3.2.trans (e2.2.trans (e1.2.trans e0.2)))))⟩
 by_cases h1 : t = [60, 61]
 ·subst h1
  have e5 := step_other (D := relsD 5) (Sp.relSign 5) [60, 61] (.lit (.int .i64 (5 : Nat))) z (by decide)
  have e4 := step_other (D := relsD 4) (Sp.relSign 4) [60, 61] (.lit (.int .i64 (4 : Nat))) z (by decide)
  have e3 := step_other (D := relsD 3) (Sp.relSign 3) [60, 61] (.lit (.int .i64 (3 : Nat))) z (by decide)
  have e2 := step_other (D := relsD 2) (Sp.relSign 2) [60, 61] (.lit (.int .i64 (2 : Nat))) z (by decide)
  have e1 := step_same (relsD_isMap 1) [60, 61] (.lit (.int .i64 (1 : Nat))) z
  exact ⟨(e5.1.trans (e4.1.trans (e3.1.trans (e2.1.trans e1.1)))), (e5.2.trans (e4.2.trans (e3.2.trans (e2.2.trans e1.2))))⟩
 by_cases h2 : t = [61, 61]
 ·subst h2
  have e5 := step_other (D := relsD 5) (Sp.relSign 5) [61, 61] (.lit (.int .i64 (5 : Nat))) z (by decide)
  have e4 := step_other (D := relsD 4) (Sp.relSign 4) [61, 61] (.lit (.int .i64 (4 : Nat))) z (by decide)
  have e3 := step_other (D := relsD 3) (Sp.relSign 3) [61, 61] (.lit (.int .i64 (3 : Nat))) z (by decide)
  have e2 := step_same (relsD_isMap 2) [61, 61] (.lit (.int .i64 (2 : Nat))) z
  exact ⟨(e5.1.trans (e4.1.trans (e3.1.trans e2.1))), (e5.2.trans (e4.2.trans (e3.2.trans e2.2)))⟩
 by_cases h3 : t = [33, 61]
 ·subst h3
  have e5 := step_other (D := relsD 5) (Sp.relSign 5) [33, 61] (.lit (.int .i64 (5 : Nat))) z (by decide)
  have e4 := step_other (D := relsD 4) (Sp.relSign 4) [33, 61] (.lit (.int .i64 (4 : Nat))) z (by decide)
  have e3 := step_same (relsD_isMap 3) [33, 61] (.lit (.int .i64 (3 : Nat))) z
  exact ⟨(e5.1.trans (e4.1.trans e3.1)), (e5.2.trans (e4.2.trans e3.2))⟩
 by_cases h4 : t = [62, 61]
 ·subst h4
  have e5 := step_other (D := relsD 5) (Sp.relSign 5) [62, 61] (.lit (.int .i64 (5 : Nat))) z (by decide)
  have e4 := step_same (relsD_isMap 4) [62, 61] (.lit (.int .i64 (4 : Nat))) z
  exact ⟨(e5.1.trans e4.1), (e5.2.trans e4.2)⟩
 by_cases h5 : t = [62]
 ·subst h5
  have e5 := step_same (relsD_isMap 5) [62] (.lit (.int .i64 (5 : Nat))) z
  exact ⟨ e5.1,  e5.2⟩
 have e5 := step_other (D := relsD 5) (Sp.relSign 5) t (.lit (.int .i64 (5 : Nat))) z h5
 have e4 := step_other (D := relsD 4) (Sp.relSign 4) t (.lit (.int .i64 (4 : Nat))) z h4
 have e3 := step_other (D := relsD 3) (Sp.relSign 3) t (.lit (.int .i64 (3 : Nat))) z h3
 have e2 := step_other (D := relsD 2) (Sp.relSign 2) t (.lit (.int .i64 (2 : Nat))) z h2
 have e1 := step_other (D := relsD 1) (Sp.relSign 1) t (.lit (.int .i64 (1 : Nat))) z h1
 have e0 := step_other (D := relsD 0) (Sp.relSign 0) t (.lit (.int .i64 (0 : Nat))) z h0
 rw [if_neg h0, if_neg h1, if_neg h2, if_neg h3, if_neg h4, if_neg h5]
 exact ⟨(e5.1.trans (e4.1.trans (e3.1.trans (e2.1.trans (e1.1.trans (e0.1.trans rfl)))))), (e5.2.trans (e4.2.trans (e3.2.trans (e2.2.trans (e1.2.trans (e0.2.trans rfl))))))⟩
theorem ops_look {m : Nat} {w : World} (h : OpsMap m w) (t : Sp.Bs) (ht : t.length ≤ 400) :
  (Instr.lookup 141 (.map (some m)) (.string ⟨t.toArray⟩) true).run Tryz.prog w = .ok (.tuple #[.int .i64 (((Sp.opOf t).getD 0 : Nat) : Int), .bool (Sp.opOf t).isSome]) w := by
 obtain ⟨v, ps, hrun, hv⟩ := World.ownsMap.look_ok h law9 Tryz.underlying141 (zeroOp w) (plainElem_int Tryz.underlying229 (a := 0) (by decide)) (key_of t ht)
 have hw := ops_view t (.lit (.int .i64 0))
 rw [hw.1] at hrun
 rw [hw.2] at hv
 obtain ⟨a, rfl, hc, _⟩ := plainElem_int_inv Tryz.underlying229 hv
 rw [hrun]
 cases ho : Sp.opOf t with
 | none => rw [ho] at hc; simp at hc; simp [← hc.1]
 | some k => rw [ho] at hc; simp at hc; simp [← hc.1]
theorem rels_look {m : Nat} {w : World} (h : RelsMap m w) (t : Sp.Bs) (ht : t.length ≤ 400) :
  (Instr.lookup 143 (.map (some m)) (.string ⟨t.toArray⟩) true).run Tryz.prog w = .ok (.tuple #[.int .i64 (((Sp.relOf t).getD 0 : Nat) : Int), .bool (Sp.relOf t).isSome]) w := by
 obtain ⟨v, ps, hrun, hv⟩ := World.ownsMap.look_ok h law9 Tryz.underlying143 (zeroRel w) (plainElem_int Tryz.underlying230 (a := 0) (by decide)) (key_of t ht)
 have hw := rels_view t (.lit (.int .i64 0))
 rw [hw.1] at hrun
 rw [hw.2] at hv
 obtain ⟨a, rfl, hc, _⟩ := plainElem_int_inv Tryz.underlying230 hv
 rw [hrun]
 cases ho : Sp.relOf t with
 | none => rw [ho] at hc; simp at hc; simp [← hc.1]
 | some k => rw [ho] at hc; simp at hc; simp [← hc.1]
theorem OpsMap.ext {m b : Nat} {w w' : World} (h : OpsMap m w) (x : Ext b w w') (hb : m ≠ b) : OpsMap m w' := by
 obtain ⟨es, clock, hh, r⟩ := h
 exact ⟨es, clock, x.keep hh hb not_num_map, r⟩
theorem RelsMap.ext {m b : Nat} {w w' : World} (h : RelsMap m w) (x : Ext b w w') (hb : m ≠ b) : RelsMap m w' := by
 obtain ⟨es, clock, hh, r⟩ := h
 exact ⟨es, clock, x.keep hh hb not_num_map, r⟩
end Go.Proofs.YtiopfihjmkfdmaaGreatDoor
