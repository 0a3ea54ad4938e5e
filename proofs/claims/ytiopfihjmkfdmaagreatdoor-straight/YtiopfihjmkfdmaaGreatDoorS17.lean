import Derived.Test.YtiopfihjmkfdmaaGreatDoorS15
import Derived.Test.YtiopfihjmkfdmaaGreatDoorS16
import Derived.Deep.RegionHeld3
namespace Go.Proofs.YtiopfihjmkfdmaaGreatDoor
open Go.RowKit
set_option maxRecDepth 100000
set_option maxHeartbeats 400000
structure Held3 (w0 : World) (N : Nat) (a b c : Value) (w : World) : Prop where
 k0 : w.cell? ⟨N, 0, none⟩ = some a
 k1 : w.cell? ⟨N, 1, none⟩ = some b
 k2 : w.cell? ⟨N, 2, none⟩ = some c
 laid : Laid w
 lt : N < w.heap.size
 from0 : Below w0.heap.size w0 w
 ge : w0.heap.size ≤ N
theorem Held3.drew {w0 : World} {N : Nat} {a b c : Value} {w : World} (h : Held3 w0 N a b c w) : Held3 w0 N a b c w.drew :=
 ⟨h.k0, h.k1, h.k2, h.laid.below ((Below.refl _ _).drew) h.laid.size, h.lt, h.from0.drew, h.ge⟩
theorem Held3.call {w0 : World} {N : Nat} {a b c : Value} {w w' : World} (h : Held3 w0 N a b c w) (hb : Below w.heap.size w w') : Held3 w0 N a b c w' :=
 ⟨by rw [hb.cell h.lt]; exact h.k0, by rw [hb.cell h.lt]; exact h.k1, by rw [hb.cell h.lt]; exact h.k2, h.laid.below hb h.laid.size, Nat.lt_of_lt_of_le h.lt hb.size, h.from0.trans (hb.mono h.from0.size), h.ge⟩
def heldS (w0 : World) (N : Nat) (a b c : Value) (w : World) : Prop := w.cell? ⟨N, 0, none⟩ = some a ∧ w.cell? ⟨N, 1, none⟩ = some b ∧ w.cell? ⟨N, 2, none⟩ = some c ∧ Held3 w0 N a b c w
theorem Held3.s {w0 : World} {N : Nat} {a b c : Value} {w : World} (h : Held3 w0 N a b c w) : heldS w0 N a b c w := ⟨h.k0, h.k1, h.k2, h⟩
theorem heldLaid {w0 : World} {N : Nat} {a b c : Value} {w : World} (h : heldS w0 N a b c w) : Laid w := h.2.2.2.laid
theorem heldBelow {w0 : World} {N : Nat} {a b c : Value} {w : World} (h : heldS w0 N a b c w) : Below w0.heap.size w0 w := h.2.2.2.from0
theorem heldCall {w0 : World} {N : Nat} {a b c : Value} {w w' : World} (hb : Below w.heap.size w w') (h : heldS w0 N a b c w) : heldS w0 N a b c w' := (h.2.2.2.call hb).s
structure HeldB (w0 : World) (N : Nat) (a b c : Value) (w : World) : Prop where
 k0 : w.cell? ⟨N, 0, none⟩ = some a
 k1 : w.cell? ⟨N, 2, none⟩ = some b
 k2 : w.cell? ⟨N, 3, none⟩ = some c
 laid : Laid w
 lt : N < w.heap.size
 from0 : Below w0.heap.size w0 w
 ge : w0.heap.size ≤ N
theorem HeldB.drew {w0 : World} {N : Nat} {a b c : Value} {w : World} (h : HeldB w0 N a b c w) : HeldB w0 N a b c w.drew :=
 ⟨h.k0, h.k1, h.k2, h.laid.below ((Below.refl _ _).drew) h.laid.size, h.lt, h.from0.drew, h.ge⟩
theorem HeldB.call {w0 : World} {N : Nat} {a b c : Value} {w w' : World} (h : HeldB w0 N a b c w) (hb : Below w.heap.size w w') : HeldB w0 N a b c w' :=
 ⟨by rw [hb.cell h.lt]; exact h.k0, by rw [hb.cell h.lt]; exact h.k1, by rw [hb.cell h.lt]; exact h.k2, h.laid.below hb h.laid.size, Nat.lt_of_lt_of_le h.lt hb.size, h.from0.trans (hb.mono h.from0.size), h.ge⟩
def heldSB (w0 : World) (N : Nat) (a b c : Value) (w : World) : Prop := w.cell? ⟨N, 0, none⟩ = some a ∧ w.cell? ⟨N, 2, none⟩ = some b ∧ w.cell? ⟨N, 3, none⟩ = some c ∧ HeldB w0 N a b c w
theorem HeldB.s {w0 : World} {N : Nat} {a b c : Value} {w : World} (h : HeldB w0 N a b c w) : heldSB w0 N a b c w := ⟨h.k0, h.k1, h.k2, h⟩
theorem heldLaidB {w0 : World} {N : Nat} {a b c : Value} {w : World} (h : heldSB w0 N a b c w) : Laid w := h.2.2.2.laid
theorem heldBelowB {w0 : World} {N : Nat} {a b c : Value} {w : World} (h : heldSB w0 N a b c w) : Below w0.heap.size w0 w := h.2.2.2.from0
theorem heldCallB {w0 : World} {N : Nat} {a b c : Value} {w w' : World} (hb : Below w.heap.size w w') (h : heldSB w0 N a b c w) : heldSB w0 N a b c w' := (h.2.2.2.call hb).s
set_option maxHeartbeats 8000000 in
theorem bin_sum (q : Int) (k : Nat) (hk : k < 5) (tl : TypeId) (ul : Value) (tr : TypeId) (ur : Value) (x y : Nat × Sp.Bs) (hx : PartSays (.iface tl ul) x) (hy : PartSays (.iface tr ur) y) :
  SumSays (.iface 334 (.agg #[.int .i64 (k : Nat), .int .i64 q, .iface tl ul, .iface tr ur])) (Sp.part x (Sp.opLevel k) ++ [32] ++ Sp.opSign k ++ [32] ++ Sp.part y (Sp.opLevel k + 1)) := by
 intro hlen w hL
 have h1 := ta_bin_num (.agg #[.int .i64 (k : Nat), .int .i64 q, .iface tl ul, .iface tr ur])
 have h2 := ta_bin_name (.agg #[.int .i64 (k : Nat), .int .i64 q, .iface tl ul, .iface tr ur])
 have h3 := ta_bin_neg (.agg #[.int .i64 (k : Nat), .int .i64 q, .iface tl ul, .iface tr ur])
 have h4 := ta_bin_bin (.agg #[.int .i64 (k : Nat), .int .i64 q, .iface tl ul, .iface tr ur])
 have hpx := part_le x (Sp.opLevel k)
 have hpy := part_le y (Sp.opLevel k + 1)
 have hlv : Sp.opLevel k ≤ 1 := by unfold Sp.opLevel; split <;> omega
 simp at hlen
 obtain ⟨P, hP⟩ : ∃ P : ByteArray, P = ⟨(Sp.part x (Sp.opLevel k)).toArray⟩ := ⟨_, rfl⟩
 obtain ⟨Y, hY⟩ : ∃ Y : ByteArray, Y = ⟨(Sp.part y (Sp.opLevel k + 1)).toArray⟩ := ⟨_, rfl⟩
 obtain ⟨G, hG⟩ : ∃ G : ByteArray, G = ⟨(Sp.opSign k).toArray⟩ := ⟨_, rfl⟩
 have hcx : ∀ w, Laid w → Calls Tryz.prog 171 #[.iface tl ul, .int .i64 (Sp.opLevel k : Nat)] w fun e w' => e = .returned (.string P) ∧ Below w.heap.size w w' := fun w hL => by rw [hP]; exact hx (by omega) _ w (by omega) hL
 have hcy : ∀ w, Laid w → Calls Tryz.prog 171 #[.iface tr ur, .int .i64 ((Sp.opLevel k : Nat) + 1 : Int)] w fun e w' => e = .returned (.string Y) ∧ Below w.heap.size w w' := fun w hL => by rw [hY]; exact hy (by omega) (Sp.opLevel k + 1) w (by omega) hL
 have hcs : ∀ w, Laid w → Calls Tryz.prog 87 #[.int .i64 (k : Nat)] w fun e w' => e = .returned (.string G) ∧ w' = w := fun w hL => by rw [hG]; exact opSign_calls k hk w (hL.ops k hk)
 have hfin : Hid (P ++ ⟨#[32]⟩ ++ G ++ ⟨#[32]⟩ ++ Y = (⟨(Sp.part x (Sp.opLevel k) ++ [32] ++ Sp.opSign k ++ [32] ++ Sp.part y (Sp.opLevel k + 1)).toArray⟩ : ByteArray)) := by
  unfold Hid; rw [hP, hG, hY]
  rw [show (⟨#[32]⟩ : ByteArray) = ⟨[32].toArray⟩ from rfl, cat_bytes, cat_bytes, cat_bytes, cat_bytes]
 have sP : P.size ≤ 2000000 := by rw [hP, size_of]; omega
 have sY : Y.size ≤ 2000000 := by rw [hY, size_of]; omega
 have sG : G.size ≤ 400 := by rw [hG, size_of]; exact opSign_len k
 clear hP hY hG
 have q1 : ¬ 9223372036854775807 < P.size + 1 := by omega
 have q2 : ¬ 9223372036854775807 < P.size + 1 + G.size := by omega
 have q3 : ¬ 9223372036854775807 < P.size + 1 + G.size + 1 := by omega
 have q4 : ¬ 9223372036854775807 < P.size + 1 + G.size + 1 + Y.size := by omega
 have hH0 : HeldB w w.heap.size (.int .i64 (k : Nat)) (.iface tl ul) (.iface tr ur) (w.alloc (.cells #[.int .i64 (k : Nat), .int .i64 q, .iface tl ul, .iface tr ur] 334)) := by
  have hn := heap_alloc_new w (.cells #[.int .i64 (k : Nat), .int .i64 q, .iface tl ul, .iface tr ur] 334)
  have hb : Below w.heap.size w (w.alloc (.cells #[.int .i64 (k : Nat), .int .i64 q, .iface tl ul, .iface tr ur] 334)) := (Below.refl _ _).alloc (Nat.le_refl _) _
  exact ⟨cell_of hn 0 rfl, cell_of hn 2 rfl, cell_of hn 3 rfl, hL.below hb hL.size, by simp, hb, Nat.le_refl _⟩
 have hwr : Hid (IntKind.i64.wrap (((Sp.opLevel k : Nat) : Int) + 1) = ((Sp.opLevel k : Nat) : Int) + 1) := by unfold Hid; exact IntWalk.i64_in _ (by omega)
 have hH := hH0.drew
 clear hH0 hx hy hpx hpy hlen
 go_enter Tryz.func125, Tryz.ntmps125
 go_wp2_with fail
 go_region_held3 (fun w' : World => w'.cell? ⟨w.heap.size, 0, none⟩ = some (.int .i64 (k : Nat)) ∧ w'.cell? ⟨w.heap.size, 2, none⟩ = some (.iface tl ul) ∧ w'.cell? ⟨w.heap.size, 3, none⟩ = some (.iface tr ur) ∧ HeldB w w.heap.size (.int .i64 (k : Nat)) (.iface tl ul) (.iface tr ur) w') (first | exact hH.s | assumption | exact heldCallB (by assumption) (by assumption)) (first | (go_at_call 172; refine (opLevel_calls k hk _).mono ?_; rintro e w1 ⟨rfl, rfl⟩) | (go_at_call 87; refine (hcs _ (heldLaidB (w0 := w) (N := w.heap.size) (a := .int .i64 (k : Nat)) (b := .iface tl ul) (c := .iface tr ur) (by assumption))).mono ?_; rintro e w1 ⟨rfl, rfl⟩) | (go_at_call_of 171 (Value.iface tl ul); refine (hcx _ (heldLaidB (w0 := w) (N := w.heap.size) (a := .int .i64 (k : Nat)) (b := .iface tl ul) (c := .iface tr ur) (by assumption))).mono ?_; rintro e w1 ⟨rfl, hb1⟩) | (go_at_call_of 171 (Value.iface tr ur); rw [hwr.out]; refine (hcy _ (heldLaidB (w0 := w) (N := w.heap.size) (a := .int .i64 (k : Nat)) (b := .iface tl ul) (c := .iface tr ur) (by assumption))).mono ?_; rintro e w1 ⟨rfl, hb1⟩))
 all_goals
  have HX : Hid (Below w.heap.size w w1) := heldBelowB (N := w.heap.size) (a := .int .i64 (k : Nat)) (b := .iface tl ul) (c := .iface tr ur) (by assumption)
  go_wp2_with fail
  go_ret
  exact ⟨ret_str hfin.out, HX.out⟩
theorem bin_part (q : Int) (k : Nat) (hk : k < 5) (a b : Value) (t : Sp.Bs) (hs : SumSays (.iface 334 (.agg #[.int .i64 (k : Nat), .int .i64 q, a, b])) t) : PartSays (.iface 334 (.agg #[.int .i64 (k : Nat), .int .i64 q, a, b])) (Sp.opLevel k, t) := by
 intro hlen least w hle hL
 have hm := m_bin (k : Nat) q a b
 have hlen' : t.length ≤ 2000000 := hlen
 by_cases hl : Sp.opLevel k < least
 ·have hp : Sp.part (Sp.opLevel k, t) least = [40] ++ t ++ [41] := by unfold Sp.part; rw [if_pos hl]
  rw [hp]
  have hd : ((Sp.opLevel k : Nat) : Int) < (least : Int) := by omega
  have hfin : Hid ((⟨#[40]⟩ ++ ⟨t.toArray⟩ ++ ⟨#[41]⟩ : ByteArray) = ⟨([40] ++ t ++ [41]).toArray⟩) := by
   unfold Hid
   rw [show (⟨#[40]⟩ : ByteArray) = ⟨[40].toArray⟩ from rfl, show (⟨#[41]⟩ : ByteArray) = ⟨[41].toArray⟩ from rfl, cat_bytes, cat_bytes]
  go_enter Tryz.func171, Tryz.ntmps171
  go_wp2_with fail
  refine (opLevel_calls k hk _).mono ?_
  rintro e w1 ⟨rfl, rfl⟩
  go_wp2_with fail
  refine (hs hlen _ hL).mono ?_
  rintro e w2 ⟨rfl, hb2⟩
  go_wp2_with fail
  go_ret
  exact ⟨ret_str hfin.out, hb2⟩
 ·have hp : Sp.part (Sp.opLevel k, t) least = t := by unfold Sp.part; rw [if_neg hl]
  rw [hp]
  have hd : ¬ ((Sp.opLevel k : Nat) : Int) < (least : Int) := by omega
  go_enter Tryz.func171, Tryz.ntmps171
  go_wp2_with fail
  refine (opLevel_calls k hk _).mono ?_
  rintro e w1 ⟨rfl, rfl⟩
  go_wp2_with fail
  refine (hs hlen _ hL).mono ?_
  rintro e w2 ⟨rfl, hb2⟩
  go_wp2_with fail
  go_ret
  exact ⟨rfl, hb2⟩
def RpPr : Rep Sp.Pr where
 S _ v x _ := (∃ t u, v = .iface t u) ∧ SumSays v x.2 ∧ PartSays v x
 iface _ _ _ _ h := h.1
 num _ n hn := ⟨⟨_, _, rfl⟩, num_sum n hn, num_part n _ (num_sum n hn)⟩
 name _ k hk := ⟨⟨_, _, rfl⟩, name_sum k hk, name_part k _ (name_sum k hk)⟩
 neg _ v x _ h := by
  obtain ⟨⟨t, u, rfl⟩, _, hp⟩ := h
  exact ⟨⟨_, _, rfl⟩, neg_sum t u x hp, neg_part t u _ (neg_sum t u x hp)⟩
 bin _ k v x _ u y _ hk h h' := by
  obtain ⟨⟨tl, ul, rfl⟩, _, hp⟩ := h
  obtain ⟨⟨tr, ur, rfl⟩, _, hq⟩ := h'
  exact ⟨⟨_, _, rfl⟩, bin_sum _ k (by omega) tl ul tr ur x y hp hq, bin_part _ k (by omega) _ _ _ (bin_sum _ k (by omega) tl ul tr ur x y hp hq)⟩
 binSite _ k v x _ u y _ _ hk h h' := by
  obtain ⟨⟨tl, ul, rfl⟩, _, hp⟩ := h
  obtain ⟨⟨tr, ur, rfl⟩, _, hq⟩ := h'
  exact ⟨⟨_, _, rfl⟩, bin_sum _ k hk tl ul tr ur x y hp hq, bin_part _ k hk _ _ _ (bin_sum _ k hk tl ul tr ur x y hp hq)⟩
end Go.Proofs.YtiopfihjmkfdmaaGreatDoor
namespace Go.Proofs.YtiopfihjmkfdmaaGreatDoor
open Go.RowKit
set_option maxRecDepth 100000
set_option maxHeartbeats 8000000
theorem cond_says (k : Nat) (hk : k < 6) (tl : TypeId) (ul : Value) (tr : TypeId) (ur : Value) (x y : Nat × Sp.Bs) (hx : SumSays (.iface tl ul) x.2) (hy : SumSays (.iface tr ur) y.2) (hlen : (Sp.condText k x y).length ≤ 2000000) (w : World) (hL : Laid w) :
  Calls Tryz.prog 126 #[.agg #[.int .i64 (k : Nat), .iface tl ul, .iface tr ur]] w fun e w' => e = .returned (.string ⟨(Sp.condText k x y).toArray⟩) ∧ Below w.heap.size w w' := by
 have hlen' := hlen
 unfold Sp.condText at hlen'
 simp at hlen'
 obtain ⟨P, hP⟩ : ∃ P : ByteArray, P = ⟨x.2.toArray⟩ := ⟨_, rfl⟩
 obtain ⟨Y, hY⟩ : ∃ Y : ByteArray, Y = ⟨y.2.toArray⟩ := ⟨_, rfl⟩
 obtain ⟨G, hG⟩ : ∃ G : ByteArray, G = ⟨(Sp.relSign k).toArray⟩ := ⟨_, rfl⟩
 have hcx : ∀ w, Laid w → Calls Tryz.prog 125 #[.iface tl ul] w fun e w' => e = .returned (.string P) ∧ Below w.heap.size w w' := fun w hL => by rw [hP]; exact hx (by omega) w hL
 have hcy : ∀ w, Laid w → Calls Tryz.prog 125 #[.iface tr ur] w fun e w' => e = .returned (.string Y) ∧ Below w.heap.size w w' := fun w hL => by rw [hY]; exact hy (by omega) w hL
 have hcs : ∀ w, Laid w → Calls Tryz.prog 88 #[.int .i64 (k : Nat)] w fun e w' => e = .returned (.string G) ∧ w' = w := fun w hL => by rw [hG]; exact relSign_calls k hk w (hL.rels k hk)
 have hfin : Hid (P ++ ⟨#[32]⟩ ++ G ++ ⟨#[32]⟩ ++ Y = (⟨(Sp.condText k x y).toArray⟩ : ByteArray)) := by
  unfold Hid; rw [hP, hG, hY]
  rw [show (⟨#[32]⟩ : ByteArray) = ⟨[32].toArray⟩ from rfl, cat_bytes, cat_bytes, cat_bytes, cat_bytes]
  rfl
 have sP : P.size ≤ 2000000 := by rw [hP, size_of]; omega
 have sY : Y.size ≤ 2000000 := by rw [hY, size_of]; omega
 have sG : G.size ≤ 400 := by rw [hG, size_of]; exact relSign_len k
 clear hP hY hG hlen hlen'
 have q1 : ¬ 9223372036854775807 < P.size + 1 := by omega
 have q2 : ¬ 9223372036854775807 < P.size + 1 + G.size := by omega
 have q3 : ¬ 9223372036854775807 < P.size + 1 + G.size + 1 := by omega
 have q4 : ¬ 9223372036854775807 < P.size + 1 + G.size + 1 + Y.size := by omega
 have hH0 : Held3 w w.heap.size (.int .i64 (k : Nat)) (.iface tl ul) (.iface tr ur) (w.alloc (.cells #[.int .i64 (k : Nat), .iface tl ul, .iface tr ur] 285)) := by
  have hn := heap_alloc_new w (.cells #[.int .i64 (k : Nat), .iface tl ul, .iface tr ur] 285)
  have hb : Below w.heap.size w (w.alloc (.cells #[.int .i64 (k : Nat), .iface tl ul, .iface tr ur] 285)) := (Below.refl _ _).alloc (Nat.le_refl _) _
  exact ⟨cell_of hn 0 rfl, cell_of hn 1 rfl, cell_of hn 2 rfl, hL.below hb hL.size, by simp, hb, Nat.le_refl _⟩
 have hH := hH0.drew
 clear hH0 hx hy
 go_enter Tryz.func126, Tryz.ntmps126
 go_wp2_with fail
 go_region_held3 (fun w' : World => w'.cell? ⟨w.heap.size, 0, none⟩ = some (.int .i64 (k : Nat)) ∧ w'.cell? ⟨w.heap.size, 1, none⟩ = some (.iface tl ul) ∧ w'.cell? ⟨w.heap.size, 2, none⟩ = some (.iface tr ur) ∧ Held3 w w.heap.size (.int .i64 (k : Nat)) (.iface tl ul) (.iface tr ur) w') (first | exact hH.s | assumption | exact heldCall (by assumption) (by assumption)) (first | (go_at_call 88; refine (hcs _ (heldLaid (w0 := w) (N := w.heap.size) (a := .int .i64 (k : Nat)) (b := .iface tl ul) (c := .iface tr ur) (by assumption))).mono ?_; rintro e w1 ⟨rfl, rfl⟩) | (go_at_call_of 125 (Value.iface tl ul); refine (hcx _ (heldLaid (w0 := w) (N := w.heap.size) (a := .int .i64 (k : Nat)) (b := .iface tl ul) (c := .iface tr ur) (by assumption))).mono ?_; rintro e w1 ⟨rfl, hb1⟩) | (go_at_call_of 125 (Value.iface tr ur); refine (hcy _ (heldLaid (w0 := w) (N := w.heap.size) (a := .int .i64 (k : Nat)) (b := .iface tl ul) (c := .iface tr ur) (by assumption))).mono ?_; rintro e w1 ⟨rfl, hb1⟩))
 all_goals
  have HX : Hid (Below w.heap.size w w1) := heldBelow (N := w.heap.size) (a := .int .i64 (k : Nat)) (b := .iface tl ul) (c := .iface tr ur) (by assumption)
  go_wp2_with fail
  go_ret
  exact ⟨ret_str hfin.out, HX.out⟩
end Go.Proofs.YtiopfihjmkfdmaaGreatDoor
namespace Go.Proofs.YtiopfihjmkfdmaaGreatDoor
open Go.RowKit
set_option maxRecDepth 100000
set_option maxHeartbeats 400000
def PartsAt (a : Nat) (ps : List ByteArray) (w : World) : Prop := ∃ c, w.heap[a]? = some (.cells c 9) ∧ ∀ (i : Nat) (s : ByteArray), ps[i]? = some s → c[i]? = some (Value.string s)
theorem PartsAt.cell {a : Nat} {ps : List ByteArray} {w : World} (h : PartsAt a ps w) {i : Nat} {s : ByteArray} (hs : ps[i]? = some s) : w.cell? ⟨a, i, none⟩ = some (.string s) := by
 obtain ⟨c, hc, hi⟩ := h
 exact cell_of hc i (hi i s hs)
theorem PartsAt.keep {B b a : Nat} {ps : List ByteArray} {w w' : World} (h : PartsAt a ps w) (k : PKeep B b w w') (hab : a ≠ b) : PartsAt a ps w' := by
 obtain ⟨c, hc, hi⟩ := h
 exact ⟨c, k.cell hc hab (by decide), hi⟩
def joined (ps : List ByteArray) : Sp.Bs := (ps.map fun s => s.data.toList).flatten
theorem PrAt.depth {B b d : Nat} {t : Sp.Bs} {w : World} (h : PrAt B b d t w) : w.cell? ⟨b, 2, none⟩ = some (.int .i64 (d : Nat)) := by
 obtain ⟨p, v, hb, _⟩ := h
 exact cell_of hb 2 rfl
theorem pad_succ (k : Nat) : Sp.pad (k + 1) = Sp.pad k ++ [32, 32] := by
 unfold Sp.pad
 rw [show 2 * (k + 1) = 2 * k + 1 + 1 from by omega, List.replicate_succ', List.replicate_succ']
 simp
theorem joined_succ (ps : List ByteArray) (k : Nat) (s : ByteArray) (h : ps[k]? = some s) : joined (ps.take (k + 1)) = joined (ps.take k) ++ s.data.toList := by
 unfold joined
 have hk := (List.getElem?_eq_some_iff.1 h)
 rw [List.take_succ_eq_append_getElem hk.1, hk.2]
 simp
theorem joined_split (ps : List ByteArray) (k : Nat) : (joined ps).length = (joined (ps.take k)).length + (joined (ps.drop k)).length := by
 have h : joined ps = joined (ps.take k) ++ joined (ps.drop k) := by
  unfold joined
  rw [← List.flatten_append, ← List.map_append, List.take_append_drop]
 rw [h, List.length_append]
theorem joined_le (ps : List ByteArray) (k : Nat) : (joined (ps.take k)).length ≤ (joined ps).length := by
 rw [joined_split ps k]; omega
theorem line_calls (B b d a : Nat) (t : Sp.Bs) (ps : List ByteArray) (cap : Nat) (w : World) (h : PrAt B b d t w) (hp : PartsAt a ps w) (hab : a ≠ b) (hn : ps.length ≤ 4) (hlen : t.length + (Sp.pad d ++ joined ps ++ [10]).length ≤ 100000000) (hBw : B ≤ w.heap.size) :
  Calls Tryz.prog 123 #[.pointer (some ⟨b, 0, none⟩), .slice (some ⟨a, 0, none⟩) ps.length cap] w fun e w' => e = .returned (.tuple #[]) ∧ PrAt B b d (t ++ (Sp.pad d ++ joined ps ++ [10])) w' ∧ PKeep B b w w' := by
 have c2 := h.depth
 simp only [List.length_append, List.length_cons, List.length_nil] at hlen
 have hd : d ≤ 100000000 := by
  have : (Sp.pad d).length = 2 * d := by simp [Sp.pad]
  omega
 have hpl : ∀ k, k ≤ d → (Sp.pad k).length ≤ (Sp.pad d).length := fun k hk => by unfold Sp.pad; simp; omega
 go_enter Tryz.func123, Tryz.ntmps123
 go_wp2_with fail
 go_loopw [10] (fun i wr => ∃ k : Nat, k ≤ d ∧ i = .int .i64 k ∧ Hid (PrAt B b d (t ++ Sp.pad k) wr ∧ PKeep B b w wr)) (fun i _ => d - (intOf i).toNat)
 case atStart => exact ⟨0, Nat.zero_le _, rfl, by simpa [Sp.pad] using h, PKeep.refl _ _ _⟩
 case round =>
  obtain ⟨k, hk, rfl, hr⟩ := hrel
  by_cases hlt : k < d
  ·have hplk := hpl k hk
   go_wp2_with fail
   refine (writeString_calls B b d (t ++ Sp.pad k) ⟨#[32, 32]⟩ wr hr.out.1 (by simp only [List.length_append]; show _ + 2 ≤ _; omega) (by have := hr.out.2.below.size; omega)).mono ?_
   rintro e w1 ⟨rfl, h1, b1⟩
   have h1' : PrAt B b d (t ++ Sp.pad (k + 1)) w1 := by rw [pad_succ, ← List.append_assoc]; exact h1
   have HR : Hid (PrAt B b d (t ++ Sp.pad (k + 1)) w1 ∧ PKeep B b w w1) := ⟨h1', hr.out.2.trans b1⟩
   clear h1 h1'
   go_wp2_with fail
   exact ⟨⟨k + 1, by omega, by go_num, HR⟩, by simp [intOf]; omega⟩
  ·have e : k = d := by omega
   subst e
   go_wp2_with fail
   obtain ⟨wo, hwo⟩ : ∃ wo : World, wo = wr := ⟨_, rfl⟩
   go_loopw [5, 19] (fun _ i wq => ∃ j : Nat, j ≤ ps.length ∧ i = .int .i64 j ∧ Hid (PrAt B b k (t ++ Sp.pad k ++ joined (ps.take j)) wq ∧ PKeep B b w wq)) (fun _ i _ => ps.length - (intOf i).toNat)
   case atStart => exact ⟨0, Nat.zero_le _, rfl, by simpa [joined] using hr.out.1, hr.out.2⟩
   case round =>
    obtain ⟨j, hj, rfl, hq⟩ := hrel
    have hjl := joined_le ps j
    by_cases hjlt : j < ps.length
    ·obtain ⟨s, hs⟩ : ∃ s, ps[j]? = some s := ⟨_, List.getElem?_eq_getElem hjlt⟩
     have hjs := joined_succ ps j s hs
     have hjl1 := joined_le ps (j + 1)
     rw [hjs, List.length_append] at hjl1
     have hcs : wr.cell? ⟨a, j, none⟩ = some (.string s) := (hp.keep hq.out.2 hab).cell hs
     have hsl : s.data.toList.length = s.size := by simp
     clear hs
     go_wp2_with fail
     refine (writeString_calls B b k (t ++ Sp.pad k ++ joined (ps.take j)) s wr hq.out.1 (by simp only [List.length_append]; omega) (by have := hq.out.2.below.size; omega)).mono ?_
     rintro e w1 ⟨rfl, h1, b1⟩
     have h1' : PrAt B b k (t ++ Sp.pad k ++ joined (ps.take (j + 1))) w1 := by rw [hjs, ← List.append_assoc]; exact h1
     have HR : Hid (PrAt B b k (t ++ Sp.pad k ++ joined (ps.take (j + 1))) w1 ∧ PKeep B b w w1) := ⟨h1', hq.out.2.trans b1⟩
     clear h1 h1' hjs
     go_wp2_with fail
     exact ⟨⟨j + 1, by omega, by go_num, HR⟩, by simp [intOf]; omega⟩
    ·have hlast : Hid (PrAt B b k (t ++ Sp.pad k ++ joined ps) wr) := by
      unfold Hid
      have := hq.out.1
      rwa [List.take_of_length_le (by omega)] at this
     go_wp2_with fail
     refine (writeString_calls B b k (t ++ Sp.pad k ++ joined ps) ⟨#[10]⟩ wr hlast.out (by simp only [List.length_append]; show _ + 1 ≤ _; omega) (by have := hq.out.2.below.size; omega)).mono ?_
     rintro e w1 ⟨rfl, h1, b1⟩
     have HR : Hid (PrAt B b k (t ++ (Sp.pad k ++ joined ps ++ [10])) w1) := by
      unfold Hid
      have : t ++ (Sp.pad k ++ joined ps ++ [10]) = t ++ Sp.pad k ++ joined ps ++ [10] := by simp
      rw [this]; exact h1
     clear h1
     go_wp2_with fail
     go_end0
     exact ⟨rfl, HR.out, hq.out.2.trans b1⟩
end Go.Proofs.YtiopfihjmkfdmaaGreatDoor
namespace Go.Proofs.YtiopfihjmkfdmaaGreatDoor
open Go.RowKit
set_option maxRecDepth 100000
set_option maxHeartbeats 2000000
def StSays (lo hi : Nat) (w : World) (v : Value) (f : Nat → Sp.Bs) : Prop :=
 ∀ (w' : World) (B b d : Nat) (t : Sp.Bs), SameOn lo hi w w' → hi ≤ B → B ≤ w'.heap.size → 11 ≤ B → Laid w' → PrAt B b d t w' → t.length + (f d).length ≤ 2000000 →
  Calls Tryz.prog 91 #[.pointer (some ⟨b, 0, none⟩), v] w' fun e w'' => e = .returned (.tuple #[]) ∧ PrAt B b d (t ++ f d) w'' ∧ PKeep B b w' w''
theorem PrAt.below {B b d : Nat} {t : Sp.Bs} {w w' : World} (h : PrAt B b d t w) (hb : Below w.heap.size w w') : PrAt B b d t w' := by
 obtain ⟨p, v, hbk, hp, ho, hne, hB⟩ := h
 refine ⟨p, v, by rw [hb.block b (heap_lt hbk)]; exact hbk, hp, ?_, hne, hB⟩
 obtain ⟨h1, h2⟩ := ho
 refine ⟨h1, ?_⟩
 rcases h2 with h2 | ⟨g, cap, cur, rfl, hg, hh, r⟩
 ·exact .inl h2
 ·exact .inr ⟨g, cap, cur, rfl, hg, by rw [hb.block g (heap_lt hh)]; exact hh, r⟩
theorem below_alloc (w : World) (o : Obj) : Below w.heap.size w (w.alloc o) := (Below.refl _ _).alloc (Nat.le_refl _) o
theorem parts_new (w : World) (ps : List ByteArray) : PartsAt w.heap.size ps (w.alloc (.cells (ps.map Value.string).toArray 9)) := by
 refine ⟨_, heap_alloc_new _ _, fun i s hs => ?_⟩
 simp [hs]
theorem line_after (B b d a n : Nat) (t : Sp.Bs) (ps : List ByteArray) (W : World) (h : PrAt B b d t W) (ha : a = W.heap.size) (hn : n = ps.length) (h4 : ps.length ≤ 4) (hlen : t.length + (Sp.pad d ++ joined ps ++ [10]).length ≤ 100000000) (hBw : B ≤ W.heap.size) :
  Calls Tryz.prog 123 #[.pointer (some ⟨b, 0, none⟩), .slice (some ⟨a, 0, none⟩) n n] (W.alloc (.cells (ps.map Value.string).toArray 9)) fun e w' => e = .returned (.tuple #[]) ∧ PrAt B b d (t ++ (Sp.pad d ++ joined ps ++ [10])) w' ∧ PKeep B b W w' := by
 subst ha hn
 have hlt := h.lt
 have hp := h.below (below_alloc W (.cells (ps.map Value.string).toArray 9))
 refine (line_calls B b d W.heap.size t ps ps.length _ hp (parts_new W ps) (by omega) h4 hlen (by simp; omega)).mono ?_
 rintro e w' ⟨rfl, h1, k1⟩
 exact ⟨rfl, h1, (PKeep.of_below (below_alloc W _) hBw).trans k1⟩
theorem read_says (p : Int) (lo hi : Nat) (w : World) (k : Nat) (hk : k < 8) : StSays lo hi w (.iface 283 (.agg #[.int .i64 p, .int .i64 (k : Nat)])) (Sp.Pr.read k) := by
 intro w' B b d t _ _ hBw h9 hL hP hlen
 have h1 := ts_2_1 (.agg #[.int .i64 p, .int .i64 (k : Nat)])
 have h2 := ts_2_2 (.agg #[.int .i64 p, .int .i64 (k : Nat)])
 have e : Sp.Pr.read k d = Sp.pad d ++ joined [⟨#[114, 101, 97, 100, 32]⟩, ⟨(Sp.letter k).toArray⟩, ⟨#[59]⟩] ++ [10] := by
  show Sp.pad d ++ [114, 101, 97, 100, 32] ++ Sp.letter k ++ [59, 10] = _
  simp [joined]
 rw [e] at hlen ⊢
 have hc : Calls Tryz.prog 123 #[.pointer (some ⟨b, 0, none⟩), .slice (some ⟨w'.heap.size + 1, 0, none⟩) 3 3] ((w'.alloc (.cells #[.int .i64 p, .int .i64 (k : Nat)] 283)).alloc (.cells #[.string ⟨#[114, 101, 97, 100, 32]⟩, .string ⟨(Sp.letter k).toArray⟩, .string ⟨#[59]⟩] 9)) _ :=
  line_after B b d (w'.heap.size + 1) 3 t [⟨#[114, 101, 97, 100, 32]⟩, ⟨(Sp.letter k).toArray⟩, ⟨#[59]⟩] (w'.alloc (.cells #[.int .i64 p, .int .i64 (k : Nat)] 283)) (hP.below (below_alloc _ _)) (by simp) rfl (by simp) (by omega) (by simp; omega)
 go_enter Tryz.func91, Tryz.ntmps91
 go_wp2_with fail
 refine (text_calls k hk _).mono ?_
 rintro e w1 ⟨rfl, rfl⟩
 go_wp2_with fail
 refine hc.mono ?_
 rintro e w2 ⟨rfl, h2, k2⟩
 go_wp2_with fail
 go_end0
 exact ⟨rfl, h2, (PKeep.of_below (below_alloc _ _) hBw).trans k2⟩
theorem assert_says (p q : Int) (lo hi : Nat) (w : World) (k : Nat) (hk : k < 6) (tl : TypeId) (ul : Value) (tr : TypeId) (ur : Value) (x y : Nat × Sp.Bs) (hx : SumSays (.iface tl ul) x.2) (hy : SumSays (.iface tr ur) y.2) :
  StSays lo hi w (.iface 287 (.agg #[.int .i64 p, .int .i64 q, .int .i64 (k : Nat), .iface tl ul, .iface tr ur])) (Sp.Pr.assert k x y) := by
 intro w' B b d t _ _ hBw h9 hL hP hlen
 have h1 := ts_3_1 (.agg #[.int .i64 p, .int .i64 q, .int .i64 (k : Nat), .iface tl ul, .iface tr ur])
 have h2 := ts_3_2 (.agg #[.int .i64 p, .int .i64 q, .int .i64 (k : Nat), .iface tl ul, .iface tr ur])
 have h3 := ts_3_3 (.agg #[.int .i64 p, .int .i64 q, .int .i64 (k : Nat), .iface tl ul, .iface tr ur])
 have e : Sp.Pr.assert k x y d = Sp.pad d ++ joined [⟨#[97, 115, 115, 101, 114, 116, 32]⟩, ⟨(Sp.condText k x y).toArray⟩, ⟨#[59]⟩] ++ [10] := by
  show Sp.pad d ++ [97, 115, 115, 101, 114, 116, 32] ++ Sp.condText k x y ++ [59, 10] = _
  simp [joined]
 rw [e] at hlen ⊢
 have hct : (Sp.condText k x y).length ≤ 2000000 := by
  have : (joined [⟨#[97, 115, 115, 101, 114, 116, 32]⟩, ⟨(Sp.condText k x y).toArray⟩, ⟨#[59]⟩]).length = 7 + (Sp.condText k x y).length + 1 := by simp [joined]; omega
  simp only [List.length_append] at hlen
  omega
 go_enter Tryz.func91, Tryz.ntmps91
 go_wp2_with fail
 refine (cond_says k hk tl ul tr ur x y hx hy hct _ (hL.below (below_alloc _ _) hL.size)).mono ?_
 rintro e w1 ⟨rfl, b1⟩
 go_wp2_with fail
 have hb1 : Below w'.heap.size w' w1 := (below_alloc _ _).trans (b1.mono (by simp))
 refine (line_after B b d w1.heap.size 3 t [⟨#[97, 115, 115, 101, 114, 116, 32]⟩, ⟨(Sp.condText k x y).toArray⟩, ⟨#[59]⟩] w1 (hP.below hb1) rfl rfl (by simp) (by omega) (by have := hb1.size; omega)).mono ?_
 rintro e w2 ⟨rfl, h2, k2⟩
 have K : PKeep B b w' w2 := (PKeep.of_below hb1 hBw).trans k2
 clear b1 hb1 k2
 go_wp2_with fail
 go_end0
 exact ⟨rfl, h2, K⟩
end Go.Proofs.YtiopfihjmkfdmaaGreatDoor
namespace Go.Proofs.YtiopfihjmkfdmaaGreatDoor
open Go.RowKit
set_option maxRecDepth 100000
set_option maxHeartbeats 4000000
theorem below_drew' (w : World) (o : Obj) : Below w.heap.size w (w.alloc o).drew := (below_alloc w o).drew
theorem assign_says (p : Int) (lo hi : Nat) (w : World) (k : Nat) (hk : k < 8) (tv : TypeId) (uv : Value) (x : Nat × Sp.Bs) (hx : SumSays (.iface tv uv) x.2) :
  StSays lo hi w (.iface 279 (.agg #[.int .i64 p, .int .i64 (k : Nat), .iface tv uv])) (Sp.Pr.assign k x) := by
 intro w' B b d t _ _ hBw h9 hL hP hlen
 have h1 := ts_1_1 (.agg #[.int .i64 p, .int .i64 (k : Nat), .iface tv uv])
 have e : Sp.Pr.assign k x d = Sp.pad d ++ joined [⟨(Sp.letter k).toArray⟩, ⟨#[32, 61, 32]⟩, ⟨x.2.toArray⟩, ⟨#[59]⟩] ++ [10] := by
  show Sp.pad d ++ Sp.letter k ++ [32, 61, 32] ++ x.2 ++ [59, 10] = _
  simp [joined]
 rw [e] at hlen ⊢
 have hct : x.2.length ≤ 2000000 := by
  have : (joined [⟨(Sp.letter k).toArray⟩, ⟨#[32, 61, 32]⟩, ⟨x.2.toArray⟩, ⟨#[59]⟩]).length = 1 + 3 + x.2.length + 1 := by simp [joined, Sp.letter]; omega
  simp only [List.length_append] at hlen
  omega
 have hL1 : Laid (w'.alloc (.cells #[.int .i64 p, .int .i64 (k : Nat), .iface tv uv] 279)).drew := hL.below (below_drew' _ _) hL.size
 have hP1 : PrAt B b d t (w'.alloc (.cells #[.int .i64 p, .int .i64 (k : Nat), .iface tv uv] 279)).drew := hP.below (below_drew' _ _)
 have HP1 : Hid (PrAt B b d t (w'.alloc (.cells #[.int .i64 p, .int .i64 (k : Nat), .iface tv uv] 279)).drew) := hP1
 clear hP1
 have hsz : B ≤ (w'.alloc (.cells #[.int .i64 p, .int .i64 (k : Nat), .iface tv uv] 279)).drew.heap.size := by show B ≤ (w'.alloc _).heap.size; simp; omega
 go_enter Tryz.func91, Tryz.ntmps91
 go_wp2_with fail
 go_region_with (first | (go_at_call 124; refine (text_calls k hk _).mono ?_; rintro e w1 ⟨rfl, rfl⟩) | (go_at_call 125; refine (hx hct _ hL1).mono ?_; rintro e w1 ⟨rfl, b1⟩) | (go_at_call 123; refine (line_after B b d w1.heap.size 4 t [⟨(Sp.letter k).toArray⟩, ⟨#[32, 61, 32]⟩, ⟨x.2.toArray⟩, ⟨#[59]⟩] w1 (HP1.out.below b1) rfl rfl (by simp) (by omega) (by have := b1.size; omega)).mono ?_; rintro e w2 ⟨rfl, h2, k2⟩))
 all_goals
  have K : PKeep B b w' w2 := ((PKeep.of_below (below_drew' _ _) hBw).trans (PKeep.of_below b1 hsz)).trans k2
  clear b1 k2
  go_wp2_with fail
  go_end0
  exact ⟨rfl, h2, K⟩
end Go.Proofs.YtiopfihjmkfdmaaGreatDoor
namespace Go.Proofs.YtiopfihjmkfdmaaGreatDoor
open Go.RowKit
set_option maxRecDepth 100000
set_option maxHeartbeats 2000000
def StsSays (lo hi : Nat) (w : World) (v : Value) (xs : List (Nat → Sp.Bs)) : Prop :=
 ∀ (w' : World) (B b d : Nat) (t : Sp.Bs), SameOn lo hi w w' → hi ≤ B → B ≤ w'.heap.size → 11 ≤ B → Laid w' → PrAt B b d t w' → t.length + (Sp.lines d xs).length ≤ 2000000 →
  Calls Tryz.prog 59 #[.pointer (some ⟨b, 0, none⟩), v] w' fun e w'' => e = .returned (.tuple #[]) ∧ PrAt B b d (t ++ Sp.lines d xs) w'' ∧ PKeep B b w' w''
theorem lines_succ (d : Nat) (xs : List (Nat → Sp.Bs)) (j : Nat) (x : Nat → Sp.Bs) (h : xs[j]? = some x) : Sp.lines d (xs.take (j + 1)) = Sp.lines d (xs.take j) ++ x d := by
 unfold Sp.lines
 have hk := List.getElem?_eq_some_iff.1 h
 rw [List.take_succ_eq_append_getElem hk.1, hk.2]
 simp
theorem lines_le (d : Nat) (xs : List (Nat → Sp.Bs)) (j : Nat) : (Sp.lines d (xs.take j)).length ≤ (Sp.lines d xs).length := by
 have h : Sp.lines d xs = Sp.lines d (xs.take j) ++ Sp.lines d (xs.drop j) := by
  unfold Sp.lines
  rw [← List.flatten_append, ← List.map_append, List.take_append_drop]
 rw [h, List.length_append]; omega
theorem SameOn.keep {B b lo hi : Nat} {w w1 w2 : World} (h : SameOn lo hi w w1) (k : PKeep B b w1 w2) (hh : hi ≤ B) : SameOn lo hi w w2 :=
 fun i h1 h2 hn => by rw [k.below.block i (by omega)]; exact h i h1 h2 hn
theorem statements_none (lo hi : Nat) (w : World) : StsSays lo hi w (.slice none 0 0) [] := by
 intro w' B b d t _ _ hBw h9 hL hP hlen
 go_enter Tryz.func59, Tryz.ntmps59
 go_wp2_with fail
 refine wp_loop_rounds 1 ?_
 rw [rounds_succ]
 go_wp2_with fail
 go_end0
 exact ⟨rfl, by simpa [Sp.lines] using hP, PKeep.refl _ _ _⟩
theorem statements_says (ct ct' : Int × Int) (lo hi : Nat) (w : World) (v : Value) (xs : List (Nat → Sp.Bs)) (h : Blk (fun _ lo hi w v f _ => StSays lo hi w v f) ct lo hi w v xs ct') : StsSays lo hi w v xs := by
 obtain ⟨vs, _, ho, hg, he, _, _⟩ := h
 have hvl : vs.length = xs.length := by simpa using ho.1
 rcases ho.2 with ⟨rfl, hz⟩ | ⟨g, cap, cur, rfl, hlg, hh, hnc, hcm, hcs, htake⟩
 ·have : xs = [] := List.eq_nil_of_length_eq_zero hz
  subst this
  exact statements_none lo hi w
 ·intro w' B b d t hso hhB hBw h9 hL hP hlen
  have hgl := hg g rfl
  have hcell : ∀ (i : Nat) (u : Value), vs[i]? = some u → w'.cell? ⟨g, i, none⟩ = some u := by
   intro i u hu
   have h1 : w'.heap[g]? = some (.cells cur 234) := by rw [hso g hlg hgl (by rw [hh]; exact not_num (by decide))]; exact hh
   refine cell_of h1 i ?_
   have h2 : i < vs.length := (List.getElem?_eq_some_iff.1 hu).1
   have h3 : cur.toList[i]? = vs[i]? := by
    rw [← htake, List.getElem?_take, if_pos (by omega)]
   rw [← Array.getElem?_toList, h3]; exact hu
  have hn : (xs.length : Int) ≤ 9223372036854775807 := by unfold maxLen at hcm; omega
  clear htake hcs hcm
  go_enter Tryz.func59, Tryz.ntmps59
  go_wp2_with fail
  go_loopw [5, 8] (fun _ i wr => ∃ j : Nat, j ≤ xs.length ∧ i = .int .i64 j ∧ Hid (PrAt B b d (t ++ Sp.lines d (xs.take j)) wr ∧ PKeep B b w' wr)) (fun _ i _ => xs.length - (intOf i).toNat)
  case atStart => exact ⟨0, Nat.zero_le _, rfl, by simpa [Sp.lines] using hP, PKeep.refl _ _ _⟩
  case round =>
   obtain ⟨j, hj, rfl, hq⟩ := hrel
   have hjl := lines_le d xs j
   by_cases hjlt : j < xs.length
   ·obtain ⟨u, hu⟩ : ∃ u, vs[j]? = some u := ⟨_, List.getElem?_eq_getElem (by omega)⟩
    obtain ⟨x, hx⟩ : ∃ x, xs[j]? = some x := ⟨_, List.getElem?_eq_getElem hjlt⟩
    have hls := lines_succ d xs j x hx
    have hjl1 := lines_le d xs (j + 1)
    rw [hls, List.length_append] at hjl1
    have hcu : wr.cell? ⟨g, j, none⟩ = some u := by
     rw [hq.out.2.below.cell (by show g < B; omega)]; exact hcell j u hu
    have hst := he j u x hu hx
    have hc := hst wr B b d (t ++ Sp.lines d (xs.take j)) (hso.keep hq.out.2 hhB) hhB (by have := hq.out.2.below.size; omega) h9 (hL.below hq.out.2.below h9) hq.out.1 (by simp only [List.length_append]; omega)
    clear hst hu hx
    go_wp2_with fail
    refine hc.mono ?_
    rintro e w1 ⟨rfl, h1, b1⟩
    have HR : Hid (PrAt B b d (t ++ Sp.lines d (xs.take (j + 1))) w1 ∧ PKeep B b w' w1) := ⟨by rw [hls, ← List.append_assoc]; exact h1, hq.out.2.trans b1⟩
    clear h1 hls hc b1
    go_wp2_with fail
    exact ⟨⟨j + 1, by omega, by go_num, HR⟩, by simp [intOf]; omega⟩
   ·have hlast : Hid (PrAt B b d (t ++ Sp.lines d xs) wr) := by
     unfold Hid
     have := hq.out.1
     rwa [List.take_of_length_le (by omega)] at this
    go_wp2_with fail
    go_end0
    exact ⟨rfl, hlast.out, hq.out.2⟩
theorem prAt_depth {B b d : Nat} {t : Sp.Bs} {w : World} (h : PrAt B b d t w) (d' : Nat) (di : Int) (hd : di = d') : PrAt B b d' t (w.setCell ⟨b, 2, none⟩ (.int .i64 di)) ∧ PKeep B b w (w.setCell ⟨b, 2, none⟩ (.int .i64 di)) := by
 subst hd
 obtain ⟨p, v, hbk, hp, ho, hne, hB⟩ := h
 refine ⟨⟨p, v, ?_, hp, ownsRow_setCell_other ho (a := ⟨b, 2, none⟩) hne _, hne, hB⟩, (Below.refl _ _).setCell (p := ⟨b, 2, none⟩) hB _, fun k _ hk _ => Below.heap_setCell _ _ _ _ hk⟩
 rw [heap_setCell_at hbk 2 (.int .i64 d')]
 rfl
theorem PrAt.fz {B b d : Nat} {t : Sp.Bs} {w : World} (h : PrAt B b d t w) : w.frozen? ⟨b, 2, none⟩ = false := by
 obtain ⟨p, v, hb, _⟩ := h
 exact frozen_of hb 2
theorem inner_says (lo hi : Nat) (w : World) (v : Value) (xs : List (Nat → Sp.Bs)) (h : StsSays lo hi w v xs) (w' : World) (B b d : Nat) (t : Sp.Bs) (hso : SameOn lo hi w w') (hhB : hi ≤ B) (hBw : B ≤ w'.heap.size) (h9 : 11 ≤ B) (hL : Laid w') (hP : PrAt B b d t w') (hlen : t.length + (Sp.lines (d + 1) xs).length ≤ 2000000) (hd : d ≤ 2000000) :
  Calls Tryz.prog 128 #[.pointer (some ⟨b, 0, none⟩), v] w' fun e w'' => e = .returned (.tuple #[]) ∧ PrAt B b d (t ++ Sp.lines (d + 1) xs) w'' ∧ PKeep B b w' w'' := by
 have c2 := hP.depth
 have f2 := hP.fz
 obtain ⟨hp1, k1⟩ := prAt_depth hP (d + 1) ((d : Int) + 1) (by omega)
 have hc := h _ B b (d + 1) t (hso.keep k1 hhB) hhB (by simp [World.setCell]; exact hBw) h9 (hL.below k1.below h9) hp1 hlen
 clear hp1
 go_enter Tryz.func128, Tryz.ntmps128
 go_wp2_with fail
 refine hc.mono ?_
 rintro e w1 ⟨rfl, h1, b1⟩
 have c3 : w1.cell? ⟨b, 2, none⟩ = some (.int .i64 ((d : Int) + 1)) := h1.depth
 have f3 := h1.fz
 have hp2 := prAt_depth h1 d (d : Int) rfl
 have HP : Hid (PrAt B b d (t ++ Sp.lines (d + 1) xs) (w1.setCell ⟨b, 2, none⟩ (.int .i64 (d : Int))) ∧ PKeep B b w' (w1.setCell ⟨b, 2, none⟩ (.int .i64 (d : Int)))) := ⟨hp2.1, (k1.trans b1).trans hp2.2⟩
 clear hp2 hc
 go_wp2_with fail
 go_end0
 exact ⟨rfl, HP.out.1, HP.out.2⟩
end Go.Proofs.YtiopfihjmkfdmaaGreatDoor
