/- THE PRINTER: conditions. -/
import Derived.Test.YtjkllmiikdlhhaaGreatDoorSays2
namespace Go.Proofs.YtjkllmiikdlhhaaGreatDoor
open Go.RowKit
set_option maxRecDepth 100000
set_option maxHeartbeats 8000000

theorem cond_says (k : Nat) (hk : k < 6) (tl : TypeId) (ul : Value) (tr : TypeId) (ur : Value) (x y : Nat × Sp.Bs) (hx : SumSays (.iface tl ul) x.2) (hy : SumSays (.iface tr ur) y.2) (hlen : (Sp.condText k x y).length ≤ 2000000) (w : World) (hL : Laid w) :
    Calls Tryz.prog 59 #[.agg #[.int .i64 (k : Nat), .iface tl ul, .iface tr ur]] w fun e w' => e = .returned (.string ⟨(Sp.condText k x y).toArray⟩) ∧ Below w.heap.size w w' := by
  have hlen' := hlen
  unfold Sp.condText at hlen'
  simp at hlen'
  obtain ⟨P, hP⟩ : ∃ P : ByteArray, P = ⟨x.2.toArray⟩ := ⟨_, rfl⟩
  obtain ⟨Y, hY⟩ : ∃ Y : ByteArray, Y = ⟨y.2.toArray⟩ := ⟨_, rfl⟩
  obtain ⟨G, hG⟩ : ∃ G : ByteArray, G = ⟨(Sp.relSign k).toArray⟩ := ⟨_, rfl⟩
  have hcx : ∀ w, Laid w → Calls Tryz.prog 58 #[.iface tl ul] w fun e w' => e = .returned (.string P) ∧ Below w.heap.size w w' := fun w hL => by rw [hP]; exact hx (by omega) w hL
  have hcy : ∀ w, Laid w → Calls Tryz.prog 58 #[.iface tr ur] w fun e w' => e = .returned (.string Y) ∧ Below w.heap.size w w' := fun w hL => by rw [hY]; exact hy (by omega) w hL
  have hcs : ∀ w, Laid w → Calls Tryz.prog 37 #[.int .i64 (k : Nat)] w fun e w' => e = .returned (.string G) ∧ w' = w := fun w hL => by rw [hG]; exact relSign_calls k hk w (hL.rels k hk)
  have hfin : Hid (P ++ ⟨#[32]⟩ ++ G ++ ⟨#[32]⟩ ++ Y = (⟨(Sp.condText k x y).toArray⟩ : ByteArray)) := by
    unfold Hid; rw [hP, hG, hY]
    rw [show (⟨#[32]⟩ : ByteArray) = ⟨[32].toArray⟩ from rfl, cat_bytes, cat_bytes, cat_bytes, cat_bytes]
    rfl
  have sP : P.size ≤ 2000000 := by rw [hP, size_of]; omega
  have sY : Y.size ≤ 2000000 := by rw [hY, size_of]; omega
  have sG : G.size ≤ 400 := by rw [hG, size_of]; exact relSign_len k
  clear hP hY hG hlen hlen'
  have q1 : ¬ 9223372036854775807 < P.size + 1 := by omega
  have q2 : ¬ 9223372036854775807 < P.size + 1 + G.size := by omega
  have q3 : ¬ 9223372036854775807 < P.size + 1 + G.size + 1 := by omega
  have q4 : ¬ 9223372036854775807 < P.size + 1 + G.size + 1 + Y.size := by omega
  have hH0 : Held3 w w.heap.size (.int .i64 (k : Nat)) (.iface tl ul) (.iface tr ur) (w.alloc (.cells #[.int .i64 (k : Nat), .iface tl ul, .iface tr ur] 141)) := by
    have hn := heap_alloc_new w (.cells #[.int .i64 (k : Nat), .iface tl ul, .iface tr ur] 141)
    have hb : Below w.heap.size w (w.alloc (.cells #[.int .i64 (k : Nat), .iface tl ul, .iface tr ur] 141)) := (Below.refl _ _).alloc (Nat.le_refl _) _
    exact ⟨cell_of hn 0 rfl, cell_of hn 1 rfl, cell_of hn 2 rfl, hL.below hb hL.size, by simp, hb, Nat.le_refl _⟩
  have hH := hH0.drew
  clear hH0 hx hy
  go_enter Tryz.func59, Tryz.ntmps59
  go_wp2_with fail
  go_region_held3 (fun w' : World => w'.cell? ⟨w.heap.size, 0, none⟩ = some (.int .i64 (k : Nat)) ∧ w'.cell? ⟨w.heap.size, 1, none⟩ = some (.iface tl ul) ∧ w'.cell? ⟨w.heap.size, 2, none⟩ = some (.iface tr ur) ∧ Held3 w w.heap.size (.int .i64 (k : Nat)) (.iface tl ul) (.iface tr ur) w') (first | exact hH.s | assumption | exact heldCall (by assumption) (by assumption)) (first | (go_at_call 37; refine (hcs _ (heldLaid (w0 := w) (N := w.heap.size) (a := .int .i64 (k : Nat)) (b := .iface tl ul) (c := .iface tr ur) (by assumption))).mono ?_; rintro e w1 ⟨rfl, rfl⟩) | (go_at_call_of 58 (Value.iface tl ul); refine (hcx _ (heldLaid (w0 := w) (N := w.heap.size) (a := .int .i64 (k : Nat)) (b := .iface tl ul) (c := .iface tr ur) (by assumption))).mono ?_; rintro e w1 ⟨rfl, hb1⟩) | (go_at_call_of 58 (Value.iface tr ur); refine (hcy _ (heldLaid (w0 := w) (N := w.heap.size) (a := .int .i64 (k : Nat)) (b := .iface tl ul) (c := .iface tr ur) (by assumption))).mono ?_; rintro e w1 ⟨rfl, hb1⟩))
  all_goals
    have HX : Hid (Below w.heap.size w w1) := heldBelow (N := w.heap.size) (a := .int .i64 (k : Nat)) (b := .iface tl ul) (c := .iface tr ur) (by assumption)
    go_wp2_with fail
    go_ret
    exact ⟨ret_str hfin.out, HX.out⟩

end Go.Proofs.YtjkllmiikdlhhaaGreatDoor
