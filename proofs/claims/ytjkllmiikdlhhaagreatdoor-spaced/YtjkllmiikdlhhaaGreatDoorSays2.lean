/- THE PRINTER: sums of two sides. -/
import Derived.Test.YtjkllmiikdlhhaaGreatDoorSays
import Derived.Deep.RegionHeld3
namespace Go.Proofs.YtjkllmiikdlhhaaGreatDoor
open Go.RowKit
set_option maxRecDepth 100000
set_option maxHeartbeats 400000

/-- what is held while the two sides are written: the node's three cells, what is laid, all that was there -/
structure Held3 (w0 : World) (N : Nat) (a b c : Value) (w : World) : Prop where
  k0 : w.cell? ⟨N, 0, none⟩ = some a
  k1 : w.cell? ⟨N, 1, none⟩ = some b
  k2 : w.cell? ⟨N, 2, none⟩ = some c
  laid : Laid w
  lt : N < w.heap.size
  from0 : Below w0.heap.size w0 w
  ge : w0.heap.size ≤ N

theorem Held3.drew {w0 : World} {N : Nat} {a b c : Value} {w : World} (h : Held3 w0 N a b c w) : Held3 w0 N a b c w.drew :=
  ⟨h.k0, h.k1, h.k2, h.laid.below ((Below.refl _ _).drew) h.laid.size, h.lt, h.from0.drew, h.ge⟩

theorem Held3.call {w0 : World} {N : Nat} {a b c : Value} {w w' : World} (h : Held3 w0 N a b c w) (hb : Below w.heap.size w w') : Held3 w0 N a b c w' :=
  ⟨by rw [hb.cell h.lt]; exact h.k0, by rw [hb.cell h.lt]; exact h.k1, by rw [hb.cell h.lt]; exact h.k2, h.laid.below hb h.laid.size, Nat.lt_of_lt_of_le h.lt hb.size, h.from0.trans (hb.mono h.from0.size), h.ge⟩

/-- the same, its cells in the open -/
def heldS (w0 : World) (N : Nat) (a b c : Value) (w : World) : Prop := w.cell? ⟨N, 0, none⟩ = some a ∧ w.cell? ⟨N, 1, none⟩ = some b ∧ w.cell? ⟨N, 2, none⟩ = some c ∧ Held3 w0 N a b c w
theorem Held3.s {w0 : World} {N : Nat} {a b c : Value} {w : World} (h : Held3 w0 N a b c w) : heldS w0 N a b c w := ⟨h.k0, h.k1, h.k2, h⟩
theorem heldLaid {w0 : World} {N : Nat} {a b c : Value} {w : World} (h : heldS w0 N a b c w) : Laid w := h.2.2.2.laid
theorem heldBelow {w0 : World} {N : Nat} {a b c : Value} {w : World} (h : heldS w0 N a b c w) : Below w0.heap.size w0 w := h.2.2.2.from0
theorem heldCall {w0 : World} {N : Nat} {a b c : Value} {w w' : World} (hb : Below w.heap.size w w') (h : heldS w0 N a b c w) : heldS w0 N a b c w' := (h.2.2.2.call hb).s

set_option maxHeartbeats 8000000 in
theorem bin_sum (k : Nat) (hk : k < 5) (tl : TypeId) (ul : Value) (tr : TypeId) (ur : Value) (x y : Nat × Sp.Bs) (hx : PartSays (.iface tl ul) x) (hy : PartSays (.iface tr ur) y) :
    SumSays (.iface 163 (.agg #[.int .i64 (k : Nat), .iface tl ul, .iface tr ur])) (Sp.part x (Sp.opLevel k) ++ [32] ++ Sp.opSign k ++ [32] ++ Sp.part y (Sp.opLevel k + 1)) := by
  intro hlen w hL
  have h1 := ta_bin_num (.agg #[.int .i64 (k : Nat), .iface tl ul, .iface tr ur])
  have h2 := ta_bin_name (.agg #[.int .i64 (k : Nat), .iface tl ul, .iface tr ur])
  have h3 := ta_bin_neg (.agg #[.int .i64 (k : Nat), .iface tl ul, .iface tr ur])
  have h4 := ta_bin_bin (.agg #[.int .i64 (k : Nat), .iface tl ul, .iface tr ur])
  have hpx := part_le x (Sp.opLevel k)
  have hpy := part_le y (Sp.opLevel k + 1)
  have hlv : Sp.opLevel k ≤ 1 := by unfold Sp.opLevel; split <;> omega
  simp at hlen
  obtain ⟨P, hP⟩ : ∃ P : ByteArray, P = ⟨(Sp.part x (Sp.opLevel k)).toArray⟩ := ⟨_, rfl⟩
  obtain ⟨Y, hY⟩ : ∃ Y : ByteArray, Y = ⟨(Sp.part y (Sp.opLevel k + 1)).toArray⟩ := ⟨_, rfl⟩
  obtain ⟨G, hG⟩ : ∃ G : ByteArray, G = ⟨(Sp.opSign k).toArray⟩ := ⟨_, rfl⟩
  have hcx : ∀ w, Laid w → Calls Tryz.prog 77 #[.iface tl ul, .int .i64 (Sp.opLevel k : Nat)] w fun e w' => e = .returned (.string P) ∧ Below w.heap.size w w' := fun w hL => by rw [hP]; exact hx (by omega) _ w (by omega) hL
  have hcy : ∀ w, Laid w → Calls Tryz.prog 77 #[.iface tr ur, .int .i64 ((Sp.opLevel k : Nat) + 1 : Int)] w fun e w' => e = .returned (.string Y) ∧ Below w.heap.size w w' := fun w hL => by rw [hY]; exact hy (by omega) (Sp.opLevel k + 1) w (by omega) hL
  have hcs : ∀ w, Laid w → Calls Tryz.prog 36 #[.int .i64 (k : Nat)] w fun e w' => e = .returned (.string G) ∧ w' = w := fun w hL => by rw [hG]; exact opSign_calls k hk w (hL.ops k hk)
  have hfin : Hid (P ++ ⟨#[32]⟩ ++ G ++ ⟨#[32]⟩ ++ Y = (⟨(Sp.part x (Sp.opLevel k) ++ [32] ++ Sp.opSign k ++ [32] ++ Sp.part y (Sp.opLevel k + 1)).toArray⟩ : ByteArray)) := by
    unfold Hid; rw [hP, hG, hY]
    rw [show (⟨#[32]⟩ : ByteArray) = ⟨[32].toArray⟩ from rfl, cat_bytes, cat_bytes, cat_bytes, cat_bytes]
  have sP : P.size ≤ 2000000 := by rw [hP, size_of]; omega
  have sY : Y.size ≤ 2000000 := by rw [hY, size_of]; omega
  have sG : G.size ≤ 400 := by rw [hG, size_of]; exact opSign_len k
  clear hP hY hG
  have q1 : ¬ 9223372036854775807 < P.size + 1 := by omega
  have q2 : ¬ 9223372036854775807 < P.size + 1 + G.size := by omega
  have q3 : ¬ 9223372036854775807 < P.size + 1 + G.size + 1 := by omega
  have q4 : ¬ 9223372036854775807 < P.size + 1 + G.size + 1 + Y.size := by omega
  have hH0 : Held3 w w.heap.size (.int .i64 (k : Nat)) (.iface tl ul) (.iface tr ur) (w.alloc (.cells #[.int .i64 (k : Nat), .iface tl ul, .iface tr ur] 163)) := by
    have hn := heap_alloc_new w (.cells #[.int .i64 (k : Nat), .iface tl ul, .iface tr ur] 163)
    have hb : Below w.heap.size w (w.alloc (.cells #[.int .i64 (k : Nat), .iface tl ul, .iface tr ur] 163)) := (Below.refl _ _).alloc (Nat.le_refl _) _
    exact ⟨cell_of hn 0 rfl, cell_of hn 1 rfl, cell_of hn 2 rfl, hL.below hb hL.size, by simp, hb, Nat.le_refl _⟩
  have hwr : Hid (IntKind.i64.wrap (((Sp.opLevel k : Nat) : Int) + 1) = ((Sp.opLevel k : Nat) : Int) + 1) := by unfold Hid; exact IntWalk.i64_in _ (by omega)
  have hH := hH0.drew
  clear hH0 hx hy hpx hpy hlen
  go_enter Tryz.func58, Tryz.ntmps58
  go_wp2_with fail
  go_region_held3 (fun w' : World => w'.cell? ⟨w.heap.size, 0, none⟩ = some (.int .i64 (k : Nat)) ∧ w'.cell? ⟨w.heap.size, 1, none⟩ = some (.iface tl ul) ∧ w'.cell? ⟨w.heap.size, 2, none⟩ = some (.iface tr ur) ∧ Held3 w w.heap.size (.int .i64 (k : Nat)) (.iface tl ul) (.iface tr ur) w') (first | exact hH.s | assumption | exact heldCall (by assumption) (by assumption)) (first | (go_at_call 78; refine (opLevel_calls k hk _).mono ?_; rintro e w1 ⟨rfl, rfl⟩) | (go_at_call 36; refine (hcs _ (heldLaid (w0 := w) (N := w.heap.size) (a := .int .i64 (k : Nat)) (b := .iface tl ul) (c := .iface tr ur) (by assumption))).mono ?_; rintro e w1 ⟨rfl, rfl⟩) | (go_at_call_of 77 (Value.iface tl ul); refine (hcx _ (heldLaid (w0 := w) (N := w.heap.size) (a := .int .i64 (k : Nat)) (b := .iface tl ul) (c := .iface tr ur) (by assumption))).mono ?_; rintro e w1 ⟨rfl, hb1⟩) | (go_at_call_of 77 (Value.iface tr ur); rw [hwr.out]; refine (hcy _ (heldLaid (w0 := w) (N := w.heap.size) (a := .int .i64 (k : Nat)) (b := .iface tl ul) (c := .iface tr ur) (by assumption))).mono ?_; rintro e w1 ⟨rfl, hb1⟩))
  all_goals
    have HX : Hid (Below w.heap.size w w1) := heldBelow (N := w.heap.size) (a := .int .i64 (k : Nat)) (b := .iface tl ul) (c := .iface tr ur) (by assumption)
    go_wp2_with fail
    go_ret
    exact ⟨ret_str hfin.out, HX.out⟩

theorem bin_part (k : Nat) (hk : k < 5) (a b : Value) (t : Sp.Bs) (hs : SumSays (.iface 163 (.agg #[.int .i64 (k : Nat), a, b])) t) : PartSays (.iface 163 (.agg #[.int .i64 (k : Nat), a, b])) (Sp.opLevel k, t) := by
  intro hlen least w hle hL
  have hm := m_bin (k : Nat) a b
  have hlen' : t.length ≤ 2000000 := hlen
  by_cases hl : Sp.opLevel k < least
  · have hp : Sp.part (Sp.opLevel k, t) least = [40] ++ t ++ [41] := by unfold Sp.part; rw [if_pos hl]
    rw [hp]
    have hd : ((Sp.opLevel k : Nat) : Int) < (least : Int) := by omega
    have hfin : Hid ((⟨#[40]⟩ ++ ⟨t.toArray⟩ ++ ⟨#[41]⟩ : ByteArray) = ⟨([40] ++ t ++ [41]).toArray⟩) := by
      unfold Hid
      rw [show (⟨#[40]⟩ : ByteArray) = ⟨[40].toArray⟩ from rfl, show (⟨#[41]⟩ : ByteArray) = ⟨[41].toArray⟩ from rfl, cat_bytes, cat_bytes]
    go_enter Tryz.func77, Tryz.ntmps77
    go_wp2_with fail
    refine (opLevel_calls k hk _).mono ?_
    rintro e w1 ⟨rfl, rfl⟩
    go_wp2_with fail
    refine (hs hlen _ hL).mono ?_
    rintro e w2 ⟨rfl, hb2⟩
    go_wp2_with fail
    go_ret
    exact ⟨ret_str hfin.out, hb2⟩
  · have hp : Sp.part (Sp.opLevel k, t) least = t := by unfold Sp.part; rw [if_neg hl]
    rw [hp]
    have hd : ¬ ((Sp.opLevel k : Nat) : Int) < (least : Int) := by omega
    go_enter Tryz.func77, Tryz.ntmps77
    go_wp2_with fail
    refine (opLevel_calls k hk _).mono ?_
    rintro e w1 ⟨rfl, rfl⟩
    go_wp2_with fail
    refine (hs hlen _ hL).mono ?_
    rintro e w2 ⟨rfl, hb2⟩
    go_wp2_with fail
    go_ret
    exact ⟨rfl, hb2⟩

/-- sums and what printer makes of them -/
def RpPr : Rep Sp.Pr where
  S v x := (∃ t u, v = .iface t u) ∧ SumSays v x.2 ∧ PartSays v x
  iface _ _ h := h.1
  num n hn := ⟨⟨_, _, rfl⟩, num_sum n hn, num_part n _ (num_sum n hn)⟩
  name k hk := ⟨⟨_, _, rfl⟩, name_sum k hk, name_part k _ (name_sum k hk)⟩
  neg v x h := by
    obtain ⟨⟨t, u, rfl⟩, _, hp⟩ := h
    exact ⟨⟨_, _, rfl⟩, neg_sum t u x hp, neg_part t u _ (neg_sum t u x hp)⟩
  bin k v x u y hk h h' := by
    obtain ⟨⟨tl, ul, rfl⟩, _, hp⟩ := h
    obtain ⟨⟨tr, ur, rfl⟩, _, hq⟩ := h'
    exact ⟨⟨_, _, rfl⟩, bin_sum k hk tl ul tr ur x y hp hq, bin_part k hk _ _ _ (bin_sum k hk tl ul tr ur x y hp hq)⟩

end Go.Proofs.YtjkllmiikdlhhaaGreatDoor
