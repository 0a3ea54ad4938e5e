import Derived.Test.YtiopfihjmkfdmaaGreatDoorS11
import Derived.Test.YtiopfihjmkfdmaaGreatDoorS1
import Derived.Lib.AppendIntMem
import Derived.Lib.SmallJoins
import Derived.Deep.RegionHeld3
namespace Go.Proofs.YtiopfihjmkfdmaaGreatDoor
open Go.RowKit
set_option maxRecDepth 100000
set_option maxHeartbeats 400000
def SumSays (v : Value) (t : Sp.Bs) : Prop := t.length ≤ 2000000 → ∀ w, Laid w → Calls Tryz.prog 125 #[v] w fun e w' => e = .returned (.string ⟨t.toArray⟩) ∧ Below w.heap.size w w'
def PartSays (v : Value) (x : Nat × Sp.Bs) : Prop := x.2.length ≤ 2000000 → ∀ (least : Nat) w, least ≤ 2 → Laid w → Calls Tryz.prog 171 #[v, .int .i64 least] w fun e w' => e = .returned (.string ⟨(Sp.part x least).toArray⟩) ∧ Below w.heap.size w w'
theorem digitsF_eq : ∀ (f n : Nat), n < 10 ^ (f + 1) → Sp.digitsF (f + 1) n = Lib.decDigits n
 | 0, n, h => by
  unfold Sp.digitsF
  rw [if_pos (by omega), Lib.decDigits_one (by omega)]
 | f + 1, n, h => by
  unfold Sp.digitsF
  rw [Lib.decDigits]
  by_cases h10 : n < 10
  ·rw [if_pos h10, dif_pos h10]
  ·rw [if_neg h10, dif_neg h10, digitsF_eq f (n / 10) (by rw [Nat.pow_succ] at h; omega)]
theorem digits_eq (n : Nat) (h : n ≤ 32767) : Lib.itoa (n : Int) = Sp.digits n := by
 unfold Lib.itoa Sp.digits
 rw [if_neg (by omega), digitsF_eq 19 n (by omega)]
 simp
theorem itoa_calls (n : Nat) (hn : n ≤ 32767) (w : World) (hL : Laid w) :
  Calls Tryz.prog 170 #[.int .i64 n] w fun e w' => e = .returned (.string ⟨(Sp.digits n).toArray⟩) ∧ Below w.heap.size w w' := by
 refine (Tryz.strconv_Itoa (n : Int) (by omega) (by omega) w hL.pow).mono ?_
 rintro e w' ⟨rfl, k, os, rfl⟩
 exact ⟨by rw [digits_eq n hn], Lib.below_grow _ _ (Nat.le_refl _) _ _⟩
theorem text_calls (k : Nat) (hk : k < 8) (w : World) :
  Calls Tryz.prog 124 #[.int .i64 k] w fun e w' => e = .returned (.string ⟨(Sp.letter k).toArray⟩) ∧ w' = w := by
 rcases (show k = 0 ∨ k = 1 ∨ k = 2 ∨ k = 3 ∨ k = 4 ∨ k = 5 ∨ k = 6 ∨ k = 7 from by omega) with rfl | rfl | rfl | rfl | rfl | rfl | rfl | rfl
 all_goals
  go_enter Tryz.func124, Tryz.ntmps124
  go_wp2_with fail
  go_ret
  exact ⟨ret_str rfl, rfl⟩
theorem num_sum (n : Nat) (hn : n ≤ 32767) : SumSays (.iface 226 (.int .i16 n)) (Sp.digits n) := by
 intro _ w hL
 have h1 := ta_num_num (.int .i16 n)
 go_enter Tryz.func125, Tryz.ntmps125
 go_wp2_with fail
 refine (itoa_calls n hn _ hL).mono ?_
 rintro e w' ⟨rfl, hb⟩
 go_wp2_with fail
 go_ret
 exact ⟨rfl, hb⟩
theorem name_sum (k : Nat) (hk : k < 8) : SumSays (.iface 275 (.int .i64 k)) (Sp.letter k) := by
 intro _ w hL
 have h1 := ta_name_num (.int .i64 k)
 have h2 := ta_name_name (.int .i64 k)
 go_enter Tryz.func125, Tryz.ntmps125
 go_wp2_with fail
 refine (text_calls k hk _).mono ?_
 rintro e w' ⟨rfl, rfl⟩
 go_wp2_with fail
 go_ret
 exact ⟨rfl, Below.refl _ _⟩
theorem lvl_num (n : Int) (w : World) : Calls Tryz.prog 346 #[.int .i16 n] w fun e w' => e = .returned (.int .i64 2) ∧ Below w.heap.size w w' := by
 go_enter Tryz.func346, Tryz.ntmps346
 go_wp2_with fail
 go_ret
 exact ⟨rfl, by repeat (first | exact Below.refl _ _ | refine Below.alloc ?_ (Nat.le_refl _) _)⟩
theorem lvl_name (n : Int) (w : World) : Calls Tryz.prog 358 #[.int .i64 n] w fun e w' => e = .returned (.int .i64 2) ∧ Below w.heap.size w w' := by
 go_enter Tryz.func358, Tryz.ntmps358
 go_wp2_with fail
 go_ret
 exact ⟨rfl, by repeat (first | exact Below.refl _ _ | refine Below.alloc ?_ (Nat.le_refl _) _)⟩
theorem lvl_neg (tv : TypeId) (uv : Value) (w : World) : Calls Tryz.prog 359 #[.agg #[.iface tv uv]] w fun e w' => e = .returned (.int .i64 2) ∧ Below w.heap.size w w' := by
 go_enter Tryz.func359, Tryz.ntmps359
 go_wp2_with fail
 go_ret
 exact ⟨rfl, by repeat (first | exact Below.refl _ _ | refine Below.alloc ?_ (Nat.le_refl _) _)⟩
theorem m_num (x : Value) (w : World) : (method 587 226 x "Level").run Tryz.prog w = .ok (346, x) w := by kernel_rfl
theorem m_name (x : Value) (w : World) : (method 587 275 x "Level").run Tryz.prog w = .ok (358, x) w := by kernel_rfl
theorem m_neg (x : Value) (w : World) : (method 587 330 (.agg #[x]) "Level").run Tryz.prog w = .ok (359, .agg #[x]) w := by kernel_rfl
theorem m_bin (k q : Int) (x y : Value) (w : World) : (method 587 334 (.agg #[.int .i64 k, .int .i64 q, x, y]) "Level").run Tryz.prog w = .ok (172, .int .i64 k) w := by kernel_rfl
theorem num_part (n : Nat) (t : Sp.Bs) (hs : SumSays (.iface 226 (.int .i16 n)) t) : PartSays (.iface 226 (.int .i16 n)) (2, t) := by
 intro hlen least w hle hL
 have hp : Sp.part (2, t) least = t := by unfold Sp.part; rw [if_neg (by simp; omega)]
 rw [hp]
 have hm := m_num (.int .i16 n)
 have hd : ¬ (2 : Int) < (least : Int) := by omega
 go_enter Tryz.func171, Tryz.ntmps171
 go_wp2_with fail
 refine (lvl_num n _).mono ?_
 rintro e w1 ⟨rfl, hb1⟩
 go_wp2_with fail
 refine (hs hlen w1 (hL.below hb1 (hL.size))).mono ?_
 rintro e w2 ⟨rfl, hb2⟩
 go_wp2_with fail
 go_ret
 exact ⟨rfl, hb1.trans (hb2.mono hb1.size)⟩
theorem name_part (n : Nat) (t : Sp.Bs) (hs : SumSays (.iface 275 (.int .i64 n)) t) : PartSays (.iface 275 (.int .i64 n)) (2, t) := by
 intro hlen least w hle hL
 have hp : Sp.part (2, t) least = t := by unfold Sp.part; rw [if_neg (by simp; omega)]
 rw [hp]
 have hm := m_name (.int .i64 n)
 have hd : ¬ (2 : Int) < (least : Int) := by omega
 go_enter Tryz.func171, Tryz.ntmps171
 go_wp2_with fail
 refine (lvl_name n _).mono ?_
 rintro e w1 ⟨rfl, hb1⟩
 go_wp2_with fail
 refine (hs hlen w1 (hL.below hb1 (hL.size))).mono ?_
 rintro e w2 ⟨rfl, hb2⟩
 go_wp2_with fail
 go_ret
 exact ⟨rfl, hb1.trans (hb2.mono hb1.size)⟩
theorem neg_part (tv : TypeId) (uv : Value) (t : Sp.Bs) (hs : SumSays (.iface 330 (.agg #[.iface tv uv])) t) : PartSays (.iface 330 (.agg #[.iface tv uv])) (2, t) := by
 intro hlen least w hle hL
 have hp : Sp.part (2, t) least = t := by unfold Sp.part; rw [if_neg (by simp; omega)]
 rw [hp]
 have hm := m_neg (.iface tv uv)
 have hd : ¬ (2 : Int) < (least : Int) := by omega
 go_enter Tryz.func171, Tryz.ntmps171
 go_wp2_with fail
 refine (lvl_neg tv uv _).mono ?_
 rintro e w1 ⟨rfl, hb1⟩
 go_wp2_with fail
 refine (hs hlen w1 (hL.below hb1 (hL.size))).mono ?_
 rintro e w2 ⟨rfl, hb2⟩
 go_wp2_with fail
 go_ret
 exact ⟨rfl, hb1.trans (hb2.mono hb1.size)⟩
theorem cat_bytes (a b : Sp.Bs) : (⟨a.toArray⟩ ++ ⟨b.toArray⟩ : ByteArray) = ⟨(a ++ b).toArray⟩ := by
 apply bytes_ext
 rw [Joins.data_append]
theorem part_le (x : Nat × Sp.Bs) (l : Nat) : x.2.length ≤ (Sp.part x l).length ∧ (Sp.part x l).length ≤ x.2.length + 2 := by
 unfold Sp.part
 split
 ·simp only [List.length_append, List.length_cons, List.length_nil]; omega
 ·omega
theorem neg_sum (tv : TypeId) (uv : Value) (x : Nat × Sp.Bs) (hs : PartSays (.iface tv uv) x) : SumSays (.iface 330 (.agg #[.iface tv uv])) ([45] ++ Sp.part x 2) := by
 intro hlen w hL
 have h1 := ta_neg_num (.agg #[.iface tv uv])
 have h2 := ta_neg_name (.agg #[.iface tv uv])
 have h3 := ta_neg_neg (.agg #[.iface tv uv])
 have hpl := part_le x 2
 have hb : 1 + (Sp.part x 2).length ≤ 2000000 := by simp at hlen; omega
 have hl2 : x.2.length ≤ 2000000 := by omega
 have hc : ∀ w, Laid w → Calls Tryz.prog 171 #[.iface tv uv, .int .i64 2] w fun e w' => e = .returned (.string ⟨(Sp.part x 2).toArray⟩) ∧ Below w.heap.size w w' := fun w hL => hs hl2 2 w (by omega) hL
 have hLw := fun o => hL.below ((Below.refl w.heap.size w).alloc (Nat.le_refl _) o) hL.size
 generalize Sp.part x 2 = p at *
 go_enter Tryz.func125, Tryz.ntmps125
 go_wp2_with fail
 refine (hc _ (hLw _)).mono ?_
 rintro e w1 ⟨rfl, hb1⟩
 go_wp2_with fail
 go_ret
 exact ⟨ret_str (cat_bytes [45] p), ((Below.refl w.heap.size w).alloc (Nat.le_refl _) _).trans (hb1.mono (by simp))⟩
end Go.Proofs.YtiopfihjmkfdmaaGreatDoor
namespace Go.Proofs.YtiopfihjmkfdmaaGreatDoor
open Go.RowKit
set_option maxRecDepth 100000
set_option maxHeartbeats 400000
structure Held3 (w0 : World) (N : Nat) (a b c : Value) (w : World) : Prop where
 k0 : w.cell? ⟨N, 0, none⟩ = some a
 k1 : w.cell? ⟨N, 1, none⟩ = some b
 k2 : w.cell? ⟨N, 2, none⟩ = some c
 laid : Laid w
 lt : N < w.heap.size
 from0 : Below w0.heap.size w0 w
 ge : w0.heap.size ≤ N
theorem Held3.drew {w0 : World} {N : Nat} {a b c : Value} {w : World} (h : Held3 w0 N a b c w) : Held3 w0 N a b c w.drew :=
 ⟨h.k0, h.k1, h.k2, h.laid.below ((Below.refl _ _).drew) h.laid.size, h.lt, h.from0.drew, h.ge⟩
theorem Held3.call {w0 : World} {N : Nat} {a b c : Value} {w w' : World} (h : Held3 w0 N a b c w) (hb : Below w.heap.size w w') : Held3 w0 N a b c w' :=
 ⟨by rw [hb.cell h.lt]; exact h.k0, by rw [hb.cell h.lt]; exact h.k1, by rw [hb.cell h.lt]; exact h.k2, h.laid.below hb h.laid.size, Nat.lt_of_lt_of_le h.lt hb.size, h.from0.trans (hb.mono h.from0.size), h.ge⟩
def heldS (w0 : World) (N : Nat) (a b c : Value) (w : World) : Prop := w.cell? ⟨N, 0, none⟩ = some a ∧ w.cell? ⟨N, 1, none⟩ = some b ∧ w.cell? ⟨N, 2, none⟩ = some c ∧ Held3 w0 N a b c w
theorem Held3.s {w0 : World} {N : Nat} {a b c : Value} {w : World} (h : Held3 w0 N a b c w) : heldS w0 N a b c w := ⟨h.k0, h.k1, h.k2, h⟩
theorem heldLaid {w0 : World} {N : Nat} {a b c : Value} {w : World} (h : heldS w0 N a b c w) : Laid w := h.2.2.2.laid
theorem heldBelow {w0 : World} {N : Nat} {a b c : Value} {w : World} (h : heldS w0 N a b c w) : Below w0.heap.size w0 w := h.2.2.2.from0
theorem heldCall {w0 : World} {N : Nat} {a b c : Value} {w w' : World} (hb : Below w.heap.size w w') (h : heldS w0 N a b c w) : heldS w0 N a b c w' := (h.2.2.2.call hb).s
structure HeldB (w0 : World) (N : Nat) (a b c : Value) (w : World) : Prop where
 k0 : w.cell? ⟨N, 0, none⟩ = some a
 k1 : w.cell? ⟨N, 2, none⟩ = some b
 k2 : w.cell? ⟨N, 3, none⟩ = some c
 laid : Laid w
 lt : N < w.heap.size
 from0 : Below w0.heap.size w0 w
 ge : w0.heap.size ≤ N
theorem HeldB.drew {w0 : World} {N : Nat} {a b c : Value} {w : World} (h : HeldB w0 N a b c w) : HeldB w0 N a b c w.drew :=
 ⟨h.k0, h.k1, h.k2, h.laid.below ((Below.refl _ _).drew) h.laid.size, h.lt, h.from0.drew, h.ge⟩
theorem HeldB.call {w0 : World} {N : Nat} {a b c : Value} {w w' : World} (h : HeldB w0 N a b c w) (hb : Below w.heap.size w w') : HeldB w0 N a b c w' :=
 ⟨by rw [hb.cell h.lt]; exact h.k0, by rw [hb.cell h.lt]; exact h.k1, by rw [hb.cell h.lt]; exact h.k2, h.laid.below hb h.laid.size, Nat.lt_of_lt_of_le h.lt hb.size, h.from0.trans (hb.mono h.from0.size), h.ge⟩
def heldSB (w0 : World) (N : Nat) (a b c : Value) (w : World) : Prop := w.cell? ⟨N, 0, none⟩ = some a ∧ w.cell? ⟨N, 2, none⟩ = some b ∧ w.cell? ⟨N, 3, none⟩ = some c ∧ HeldB w0 N a b c w
theorem HeldB.s {w0 : World} {N : Nat} {a b c : Value} {w : World} (h : HeldB w0 N a b c w) : heldSB w0 N a b c w := ⟨h.k0, h.k1, h.k2, h⟩
theorem heldLaidB {w0 : World} {N : Nat} {a b c : Value} {w : World} (h : heldSB w0 N a b c w) : Laid w := h.2.2.2.laid
theorem heldBelowB {w0 : World} {N : Nat} {a b c : Value} {w : World} (h : heldSB w0 N a b c w) : Below w0.heap.size w0 w := h.2.2.2.from0
theorem heldCallB {w0 : World} {N : Nat} {a b c : Value} {w w' : World} (hb : Below w.heap.size w w') (h : heldSB w0 N a b c w) : heldSB w0 N a b c w' := (h.2.2.2.call hb).s
set_option maxHeartbeats 8000000 in
theorem bin_sum (q : Int) (k : Nat) (hk : k < 5) (tl : TypeId) (ul : Value) (tr : TypeId) (ur : Value) (x y : Nat × Sp.Bs) (hx : PartSays (.iface tl ul) x) (hy : PartSays (.iface tr ur) y) :
  SumSays (.iface 334 (.agg #[.int .i64 (k : Nat), .int .i64 q, .iface tl ul, .iface tr ur])) (Sp.part x (Sp.opLevel k) ++ [32] ++ Sp.opSign k ++ [32] ++ Sp.part y (Sp.opLevel k + 1)) := by
 intro hlen w hL
 have h1 := ta_bin_num (.agg #[.int .i64 (k : Nat), .int .i64 q, .iface tl ul, .iface tr ur])
 have h2 := ta_bin_name (.agg #[.int .i64 (k : Nat), .int .i64 q, .iface tl ul, .iface tr ur])
 have h3 := ta_bin_neg (.agg #[.int .i64 (k : Nat), .int .i64 q, .iface tl ul, .iface tr ur])
 have h4 := ta_bin_bin (.agg #[.int .i64 (k : Nat), .int .i64 q, .iface tl ul, .iface tr ur])
 have hpx := part_le x (Sp.opLevel k)
 have hpy := part_le y (Sp.opLevel k + 1)
 have hlv : Sp.opLevel k ≤ 1 := by unfold Sp.opLevel; split <;> omega
 simp at hlen
 obtain ⟨P, hP⟩ : ∃ P : ByteArray, P = ⟨(Sp.part x (Sp.opLevel k)).toArray⟩ := ⟨_, rfl⟩
 obtain ⟨Y, hY⟩ : ∃ Y : ByteArray, Y = ⟨(Sp.part y (Sp.opLevel k + 1)).toArray⟩ := ⟨_, rfl⟩
 obtain ⟨G, hG⟩ : ∃ G : ByteArray, G = ⟨(Sp.opSign k).toArray⟩ := ⟨_, rfl⟩
 have hcx : ∀ w, Laid w → Calls Tryz.prog 171 #[.iface tl ul, .int .i64 (Sp.opLevel k : Nat)] w fun e w' => e = .returned (.string P) ∧ Below w.heap.size w w' := fun w hL => by rw [hP]; exact hx (by omega) _ w (by omega) hL
 have hcy : ∀ w, Laid w → Calls Tryz.prog 171 #[.iface tr ur, .int .i64 ((Sp.opLevel k : Nat) + 1 : Int)] w fun e w' => e = .returned (.string Y) ∧ Below w.heap.size w w' := fun w hL => by rw [hY]; exact hy (by omega) (Sp.opLevel k + 1) w (by omega) hL
 have hcs : ∀ w, Laid w → Calls Tryz.prog 87 #[.int .i64 (k : Nat)] w fun e w' => e = .returned (.string G) ∧ w' = w := fun w hL => by rw [hG]; exact opSign_calls k hk w (hL.ops k hk)
 have hfin : Hid (P ++ ⟨#[32]⟩ ++ G ++ ⟨#[32]⟩ ++ Y = (⟨(Sp.part x (Sp.opLevel k) ++ [32] ++ Sp.opSign k ++ [32] ++ Sp.part y (Sp.opLevel k + 1)).toArray⟩ : ByteArray)) := by
  unfold Hid; rw [hP, hG, hY]
  rw [show (⟨#[32]⟩ : ByteArray) = ⟨[32].toArray⟩ from rfl, cat_bytes, cat_bytes, cat_bytes, cat_bytes]
 have sP : P.size ≤ 2000000 := by rw [hP, size_of]; omega
 have sY : Y.size ≤ 2000000 := by rw [hY, size_of]; omega
 have sG : G.size ≤ 400 := by rw [hG, size_of]; exact opSign_len k
 clear hP hY hG
 have q1 : ¬ 9223372036854775807 < P.size + 1 := by omega
 have q2 : ¬ 9223372036854775807 < P.size + 1 + G.size := by omega
 have q3 : ¬ 9223372036854775807 < P.size + 1 + G.size + 1 := by omega
 have q4 : ¬ 9223372036854775807 < P.size + 1 + G.size + 1 + Y.size := by omega
 have hH0 : HeldB w w.heap.size (.int .i64 (k : Nat)) (.iface tl ul) (.iface tr ur) (w.alloc (.cells #[.int .i64 (k : Nat), .int .i64 q, .iface tl ul, .iface tr ur] 334)) := by
  have hn := heap_alloc_new w (.cells #[.int .i64 (k : Nat), .int .i64 q, .iface tl ul, .iface tr ur] 334)
  have hb : Below w.heap.size w (w.alloc (.cells #[.int .i64 (k : Nat), .int .i64 q, .iface tl ul, .iface tr ur] 334)) := (Below.refl _ _).alloc (Nat.le_refl _) _
  exact ⟨cell_of hn 0 rfl, cell_of hn 2 rfl, cell_of hn 3 rfl, hL.below hb hL.size, by simp, hb, Nat.le_refl _⟩
 have hwr : Hid (IntKind.i64.wrap (((Sp.opLevel k : Nat) : Int) + 1) = ((Sp.opLevel k : Nat) : Int) + 1) := by unfold Hid; exact IntWalk.i64_in _ (by omega)
 have hH := hH0.drew
 clear hH0 hx hy hpx hpy hlen
 go_enter Tryz.func125, Tryz.ntmps125
 go_wp2_with fail
 go_region_held3 (fun w' : World => w'.cell? ⟨w.heap.size, 0, none⟩ = some (.int .i64 (k : Nat)) ∧ w'.cell? ⟨w.heap.size, 2, none⟩ = some (.iface tl ul) ∧ w'.cell? ⟨w.heap.size, 3, none⟩ = some (.iface tr ur) ∧ HeldB w w.heap.size (.int .i64 (k : Nat)) (.iface tl ul) (.iface tr ur) w') (first | exact hH.s | assumption | exact heldCallB (by assumption) (by assumption)) (first | (go_at_call 172; refine (opLevel_calls k hk _).mono ?_; rintro e w1 ⟨rfl, rfl⟩) | (go_at_call 87; refine (hcs _ (heldLaidB (w0 := w) (N := w.heap.size) (a := .int .i64 (k : Nat)) (b := .iface tl ul) (c := .iface tr ur) (by assumption))).mono ?_; rintro e w1 ⟨rfl, rfl⟩) | (go_at_call_of 171 (Value.iface tl ul); refine (hcx _ (heldLaidB (w0 := w) (N := w.heap.size) (a := .int .i64 (k : Nat)) (b := .iface tl ul) (c := .iface tr ur) (by assumption))).mono ?_; rintro e w1 ⟨rfl, hb1⟩) | (go_at_call_of 171 (Value.iface tr ur); rw [hwr.out]; refine (hcy _ (heldLaidB (w0 := w) (N := w.heap.size) (a := .int .i64 (k : Nat)) (b := .iface tl ul) (c := .iface tr ur) (by assumption))).mono ?_; rintro e w1 ⟨rfl, hb1⟩))
 all_goals
  have HX : Hid (Below w.heap.size w w1) := heldBelowB (N := w.heap.size) (a := .int .i64 (k : Nat)) (b := .iface tl ul) (c := .iface tr ur) (by assumption)
  go_wp2_with fail
  go_ret
  exact ⟨ret_str hfin.out, HX.out⟩
theorem bin_part (q : Int) (k : Nat) (hk : k < 5) (a b : Value) (t : Sp.Bs) (hs : SumSays (.iface 334 (.agg #[.int .i64 (k : Nat), .int .i64 q, a, b])) t) : PartSays (.iface 334 (.agg #[.int .i64 (k : Nat), .int .i64 q, a, b])) (Sp.opLevel k, t) := by
 intro hlen least w hle hL
 have hm := m_bin (k : Nat) q a b
 have hlen' : t.length ≤ 2000000 := hlen
 by_cases hl : Sp.opLevel k < least
 ·have hp : Sp.part (Sp.opLevel k, t) least = [40] ++ t ++ [41] := by unfold Sp.part; rw [if_pos hl]
  rw [hp]
  have hd : ((Sp.opLevel k : Nat) : Int) < (least : Int) := by omega
  have hfin : Hid ((⟨#[40]⟩ ++ ⟨t.toArray⟩ ++ ⟨#[41]⟩ : ByteArray) = ⟨([40] ++ t ++ [41]).toArray⟩) := by
   unfold Hid
   rw [show (⟨#[40]⟩ : ByteArray) = ⟨[40].toArray⟩ from rfl, show (⟨#[41]⟩ : ByteArray) = ⟨[41].toArray⟩ from rfl, cat_bytes, cat_bytes]
  go_enter Tryz.func171, Tryz.ntmps171
  go_wp2_with fail
  refine (opLevel_calls k hk _).mono ?_
  rintro e w1 ⟨rfl, rfl⟩
  go_wp2_with fail
  refine (hs hlen _ hL).mono ?_
  rintro e w2 ⟨rfl, hb2⟩
  go_wp2_with fail
  go_ret
  exact ⟨ret_str hfin.out, hb2⟩
 ·have hp : Sp.part (Sp.opLevel k, t) least = t := by unfold Sp.part; rw [if_neg hl]
  rw [hp]
  have hd : ¬ ((Sp.opLevel k : Nat) : Int) < (least : Int) := by omega
  go_enter Tryz.func171, Tryz.ntmps171
  go_wp2_with fail
  refine (opLevel_calls k hk _).mono ?_
  rintro e w1 ⟨rfl, rfl⟩
  go_wp2_with fail
  refine (hs hlen _ hL).mono ?_
  rintro e w2 ⟨rfl, hb2⟩
  go_wp2_with fail
  go_ret
  exact ⟨rfl, hb2⟩
def RpPr : Rep Sp.Pr where
 S _ v x _ := (∃ t u, v = .iface t u) ∧ SumSays v x.2 ∧ PartSays v x
 iface _ _ _ _ h := h.1
 num _ n hn := ⟨⟨_, _, rfl⟩, num_sum n hn, num_part n _ (num_sum n hn)⟩
 name _ k hk := ⟨⟨_, _, rfl⟩, name_sum k hk, name_part k _ (name_sum k hk)⟩
 neg _ v x _ h := by
  obtain ⟨⟨t, u, rfl⟩, _, hp⟩ := h
  exact ⟨⟨_, _, rfl⟩, neg_sum t u x hp, neg_part t u _ (neg_sum t u x hp)⟩
 bin _ k v x _ u y _ hk h h' := by
  obtain ⟨⟨tl, ul, rfl⟩, _, hp⟩ := h
  obtain ⟨⟨tr, ur, rfl⟩, _, hq⟩ := h'
  exact ⟨⟨_, _, rfl⟩, bin_sum _ k (by omega) tl ul tr ur x y hp hq, bin_part _ k (by omega) _ _ _ (bin_sum _ k (by omega) tl ul tr ur x y hp hq)⟩
 binSite _ k v x _ u y _ _ hk h h' := by
  obtain ⟨⟨tl, ul, rfl⟩, _, hp⟩ := h
  obtain ⟨⟨tr, ur, rfl⟩, _, hq⟩ := h'
  exact ⟨⟨_, _, rfl⟩, bin_sum _ k hk tl ul tr ur x y hp hq, bin_part _ k hk _ _ _ (bin_sum _ k hk tl ul tr ur x y hp hq)⟩
end Go.Proofs.YtiopfihjmkfdmaaGreatDoor
namespace Go.Proofs.YtiopfihjmkfdmaaGreatDoor
open Go.RowKit
set_option maxRecDepth 100000
set_option maxHeartbeats 8000000
theorem cond_says (k : Nat) (hk : k < 6) (tl : TypeId) (ul : Value) (tr : TypeId) (ur : Value) (x y : Nat × Sp.Bs) (hx : SumSays (.iface tl ul) x.2) (hy : SumSays (.iface tr ur) y.2) (hlen : (Sp.condText k x y).length ≤ 2000000) (w : World) (hL : Laid w) :
  Calls Tryz.prog 126 #[.agg #[.int .i64 (k : Nat), .iface tl ul, .iface tr ur]] w fun e w' => e = .returned (.string ⟨(Sp.condText k x y).toArray⟩) ∧ Below w.heap.size w w' := by
 have hlen' := hlen
 unfold Sp.condText at hlen'
 simp at hlen'
 obtain ⟨P, hP⟩ : ∃ P : ByteArray, P = ⟨x.2.toArray⟩ := ⟨_, rfl⟩
 obtain ⟨Y, hY⟩ : ∃ Y : ByteArray, Y = ⟨y.2.toArray⟩ := ⟨_, rfl⟩
 obtain ⟨G, hG⟩ : ∃ G : ByteArray, G = ⟨(Sp.relSign k).toArray⟩ := ⟨_, rfl⟩
 have hcx : ∀ w, Laid w → Calls Tryz.prog 125 #[.iface tl ul] w fun e w' => e = .returned (.string P) ∧ Below w.heap.size w w' := fun w hL => by rw [hP]; exact hx (by omega) w hL
 have hcy : ∀ w, Laid w → Calls Tryz.prog 125 #[.iface tr ur] w fun e w' => e = .returned (.string Y) ∧ Below w.heap.size w w' := fun w hL => by rw [hY]; exact hy (by omega) w hL
 have hcs : ∀ w, Laid w → Calls Tryz.prog 88 #[.int .i64 (k : Nat)] w fun e w' => e = .returned (.string G) ∧ w' = w := fun w hL => by rw [hG]; exact relSign_calls k hk w (hL.rels k hk)
 have hfin : Hid (P ++ ⟨#[32]⟩ ++ G ++ ⟨#[32]⟩ ++ Y = (⟨(Sp.condText k x y).toArray⟩ : ByteArray)) := by
  unfold Hid; rw [hP, hG, hY]
  rw [show (⟨#[32]⟩ : ByteArray) = ⟨[32].toArray⟩ from rfl, cat_bytes, cat_bytes, cat_bytes, cat_bytes]
  rfl
 have sP : P.size ≤ 2000000 := by rw [hP, size_of]; omega
 have sY : Y.size ≤ 2000000 := by rw [hY, size_of]; omega
 have sG : G.size ≤ 400 := by rw [hG, size_of]; exact relSign_len k
 clear hP hY hG hlen hlen'
 have q1 : ¬ 9223372036854775807 < P.size + 1 := by omega
 have q2 : ¬ 9223372036854775807 < P.size + 1 + G.size := by omega
 have q3 : ¬ 9223372036854775807 < P.size + 1 + G.size + 1 := by omega
 have q4 : ¬ 9223372036854775807 < P.size + 1 + G.size + 1 + Y.size := by omega
 have hH0 : Held3 w w.heap.size (.int .i64 (k : Nat)) (.iface tl ul) (.iface tr ur) (w.alloc (.cells #[.int .i64 (k : Nat), .iface tl ul, .iface tr ur] 285)) := by
  have hn := heap_alloc_new w (.cells #[.int .i64 (k : Nat), .iface tl ul, .iface tr ur] 285)
  have hb : Below w.heap.size w (w.alloc (.cells #[.int .i64 (k : Nat), .iface tl ul, .iface tr ur] 285)) := (Below.refl _ _).alloc (Nat.le_refl _) _
  exact ⟨cell_of hn 0 rfl, cell_of hn 1 rfl, cell_of hn 2 rfl, hL.below hb hL.size, by simp, hb, Nat.le_refl _⟩
 have hH := hH0.drew
 clear hH0 hx hy
 go_enter Tryz.func126, Tryz.ntmps126
 go_wp2_with fail
 go_region_held3 (fun w' : World => w'.cell? ⟨w.heap.size, 0, none⟩ = some (.int .i64 (k : Nat)) ∧ w'.cell? ⟨w.heap.size, 1, none⟩ = some (.iface tl ul) ∧ w'.cell? ⟨w.heap.size, 2, none⟩ = some (.iface tr ur) ∧ Held3 w w.heap.size (.int .i64 (k : Nat)) (.iface tl ul) (.iface tr ur) w') (first | exact hH.s | assumption | exact heldCall (by assumption) (by assumption)) (first | (go_at_call 88; refine (hcs _ (heldLaid (w0 := w) (N := w.heap.size) (a := .int .i64 (k : Nat)) (b := .iface tl ul) (c := .iface tr ur) (by assumption))).mono ?_; rintro e w1 ⟨rfl, rfl⟩) | (go_at_call_of 125 (Value.iface tl ul); refine (hcx _ (heldLaid (w0 := w) (N := w.heap.size) (a := .int .i64 (k : Nat)) (b := .iface tl ul) (c := .iface tr ur) (by assumption))).mono ?_; rintro e w1 ⟨rfl, hb1⟩) | (go_at_call_of 125 (Value.iface tr ur); refine (hcy _ (heldLaid (w0 := w) (N := w.heap.size) (a := .int .i64 (k : Nat)) (b := .iface tl ul) (c := .iface tr ur) (by assumption))).mono ?_; rintro e w1 ⟨rfl, hb1⟩))
 all_goals
  have HX : Hid (Below w.heap.size w w1) := heldBelow (N := w.heap.size) (a := .int .i64 (k : Nat)) (b := .iface tl ul) (c := .iface tr ur) (by assumption)
  go_wp2_with fail
  go_ret
  exact ⟨ret_str hfin.out, HX.out⟩
end Go.Proofs.YtiopfihjmkfdmaaGreatDoor
