import Derived.Test.YtiopfihjmkfdmaaGreatDoorS35
namespace Go.Proofs.YtiopfihjmkfdmaaGreatDoor
namespace WI
open Go.RowKit
set_option maxRecDepth 100000
set_option maxHeartbeats 1000000
def CondsAt (C : Cx) (π : Par) (T : Tab) (F : Fd) (b : Bool) (k : Nat) (vl vr : Value) (s : ST) (es : List TelT) (s1 s2 : ST) : Prop :=
 ∀ W, AnAt C π T F W → Calls Tryz.prog 198 #[.agg (wk C b), .agg #[.int .i64 (k : Nat), vl, vr], .agg (stC s)] W (CondPost C π T F b W es s1 s2)
theorem two_new (w : World) (u1 u2 : Array Value) (h1 : u1.size = 17) (h2 : u2.size = 17) :
  ((w.alloc (.cells #[.bool false, .int .i16 0, .int .i16 0, .int .i16 0, .int .i16 0, .int .i16 0, .int .i16 0, .int .i16 0, .int .i16 0, .int .i16 0, .int .i16 0, .int .i16 0, .int .i16 0, .int .i16 0, .int .i16 0, .int .i16 0, .int .i16 0] 220)).alloc (.cells #[.bool false, .int .i16 0, .int .i16 0, .int .i16 0, .int .i16 0, .int .i16 0, .int .i16 0, .int .i16 0, .int .i16 0, .int .i16 0, .int .i16 0, .int .i16 0, .int .i16 0, .int .i16 0, .int .i16 0, .int .i16 0, .int .i16 0] 220)).heap[w.heap.size]? = some (.cells #[.bool false, .int .i16 0, .int .i16 0, .int .i16 0, .int .i16 0, .int .i16 0, .int .i16 0, .int .i16 0, .int .i16 0, .int .i16 0, .int .i16 0, .int .i16 0, .int .i16 0, .int .i16 0, .int .i16 0, .int .i16 0, .int .i16 0] 220) ∧
  (((w.alloc (.cells #[.bool false, .int .i16 0, .int .i16 0, .int .i16 0, .int .i16 0, .int .i16 0, .int .i16 0, .int .i16 0, .int .i16 0, .int .i16 0, .int .i16 0, .int .i16 0, .int .i16 0, .int .i16 0, .int .i16 0, .int .i16 0, .int .i16 0] 220)).alloc (.cells #[.bool false, .int .i16 0, .int .i16 0, .int .i16 0, .int .i16 0, .int .i16 0, .int .i16 0, .int .i16 0, .int .i16 0, .int .i16 0, .int .i16 0, .int .i16 0, .int .i16 0, .int .i16 0, .int .i16 0, .int .i16 0, .int .i16 0] 220)).setCells w.heap.size 0 u1.toList).heap[w.heap.size + 1]? = some (.cells #[.bool false, .int .i16 0, .int .i16 0, .int .i16 0, .int .i16 0, .int .i16 0, .int .i16 0, .int .i16 0, .int .i16 0, .int .i16 0, .int .i16 0, .int .i16 0, .int .i16 0, .int .i16 0, .int .i16 0, .int .i16 0, .int .i16 0] 220) ∧
  ((((w.alloc (.cells #[.bool false, .int .i16 0, .int .i16 0, .int .i16 0, .int .i16 0, .int .i16 0, .int .i16 0, .int .i16 0, .int .i16 0, .int .i16 0, .int .i16 0, .int .i16 0, .int .i16 0, .int .i16 0, .int .i16 0, .int .i16 0, .int .i16 0] 220)).alloc (.cells #[.bool false, .int .i16 0, .int .i16 0, .int .i16 0, .int .i16 0, .int .i16 0, .int .i16 0, .int .i16 0, .int .i16 0, .int .i16 0, .int .i16 0, .int .i16 0, .int .i16 0, .int .i16 0, .int .i16 0, .int .i16 0, .int .i16 0] 220)).setCells w.heap.size 0 u1.toList).setCells (w.heap.size + 1) 0 u2.toList).heap[w.heap.size]? = some (.cells u1 220) ∧
  ((((w.alloc (.cells #[.bool false, .int .i16 0, .int .i16 0, .int .i16 0, .int .i16 0, .int .i16 0, .int .i16 0, .int .i16 0, .int .i16 0, .int .i16 0, .int .i16 0, .int .i16 0, .int .i16 0, .int .i16 0, .int .i16 0, .int .i16 0, .int .i16 0] 220)).alloc (.cells #[.bool false, .int .i16 0, .int .i16 0, .int .i16 0, .int .i16 0, .int .i16 0, .int .i16 0, .int .i16 0, .int .i16 0, .int .i16 0, .int .i16 0, .int .i16 0, .int .i16 0, .int .i16 0, .int .i16 0, .int .i16 0, .int .i16 0] 220)).setCells w.heap.size 0 u1.toList).setCells (w.heap.size + 1) 0 u2.toList).heap[w.heap.size + 1]? = some (.cells u2 220) ∧
  Below w.heap.size w ((((w.alloc (.cells #[.bool false, .int .i16 0, .int .i16 0, .int .i16 0, .int .i16 0, .int .i16 0, .int .i16 0, .int .i16 0, .int .i16 0, .int .i16 0, .int .i16 0, .int .i16 0, .int .i16 0, .int .i16 0, .int .i16 0, .int .i16 0, .int .i16 0] 220)).alloc (.cells #[.bool false, .int .i16 0, .int .i16 0, .int .i16 0, .int .i16 0, .int .i16 0, .int .i16 0, .int .i16 0, .int .i16 0, .int .i16 0, .int .i16 0, .int .i16 0, .int .i16 0, .int .i16 0, .int .i16 0, .int .i16 0, .int .i16 0] 220)).setCells w.heap.size 0 u1.toList).setCells (w.heap.size + 1) 0 u2.toList) := by
 obtain ⟨a1, a2, a3⟩ := laid2b (w := w) (o1 := .cells #[.bool false, .int .i16 0, .int .i16 0, .int .i16 0, .int .i16 0, .int .i16 0, .int .i16 0, .int .i16 0, .int .i16 0, .int .i16 0, .int .i16 0, .int .i16 0, .int .i16 0, .int .i16 0, .int .i16 0, .int .i16 0, .int .i16 0] 220) (o2 := .cells #[.bool false, .int .i16 0, .int .i16 0, .int .i16 0, .int .i16 0, .int .i16 0, .int .i16 0, .int .i16 0, .int .i16 0, .int .i16 0, .int .i16 0, .int .i16 0, .int .i16 0, .int .i16 0, .int .i16 0, .int .i16 0, .int .i16 0] 220) (Below.refl _ _)
 have b1 := setCells_whole a1 (d := u1) (by rw [h1]; rfl)
 have b2 := (setCells_other u1.toList 0 ((w.alloc (.cells #[.bool false, .int .i16 0, .int .i16 0, .int .i16 0, .int .i16 0, .int .i16 0, .int .i16 0, .int .i16 0, .int .i16 0, .int .i16 0, .int .i16 0, .int .i16 0, .int .i16 0, .int .i16 0, .int .i16 0, .int .i16 0, .int .i16 0] 220)).alloc (.cells #[.bool false, .int .i16 0, .int .i16 0, .int .i16 0, .int .i16 0, .int .i16 0, .int .i16 0, .int .i16 0, .int .i16 0, .int .i16 0, .int .i16 0, .int .i16 0, .int .i16 0, .int .i16 0, .int .i16 0, .int .i16 0, .int .i16 0] 220)) (w.heap.size + 1) (show w.heap.size + 1 ≠ w.heap.size by omega)).trans a2
 exact ⟨a1, b2, (setCells_other u2.toList 0 _ w.heap.size (by omega)).trans b1, setCells_whole b2 (d := u2) (by rw [h2]; rfl), setCells_below (b := w.heap.size + 1) (by omega) u2.toList 0 w _ (setCells_below (b := w.heap.size) (Nat.le_refl _) u1.toList 0 w _ a3)⟩
theorem assert_calls (p q : Int) (k : Nat) (tl : TypeId) (ul : Value) (tr : TypeId) (ur : Value) (C : Cx) (π : Par) (T : Tab) (F : Fd) (b : Bool) (w : World) (e : Fin 8 → Sp.Iv) (es : List TelT) (s1 s2 : ST) (h : AnAt C π T F w)
  (hs : CondsAt C π T F b k (.iface tl ul) (.iface tr ur) (some e) es s1 s2) (hr : Rng b (told π b F es) [.site q s2.isSome]) :
  Calls Tryz.prog 159 #[.agg (wk C b), .agg #[.int .i64 p, .int .i64 q, .int .i64 (k : Nat), .iface tl ul, .iface tr ur], .agg (stC (some e))] w (Post C π T F b w (es ++ [.site q s2.isSome]) s1) := by
 obtain ⟨k0, k1, k2, k3, kb⟩ := laid4b (w := w) (o1 := .cells (wk C b) 217) (o2 := .cells #[.int .i64 p, .int .i64 q, .int .i64 (k : Nat), .iface tl ul, .iface tr ur] 287) (o3 := .cells (stC (some e)) 220) (o4 := .cells #[.bool false, .int .i16 0, .int .i16 0, .int .i16 0, .int .i16 0, .int .i16 0, .int .i16 0, .int .i16 0, .int .i16 0, .int .i16 0, .int .i16 0, .int .i16 0, .int .i16 0, .int .i16 0, .int .i16 0, .int .i16 0, .int .i16 0] 220) (Below.refl _ _)
 have HW := hs _ (h.call kb)
 have HSi : Hid (∀ W, AnAt C π T (told π b F es) W → Calls _ _ _ W _) := fun W hW => site_calls C π T (told π b F es) b W hW q s2.isSome hr
 have hws := wk_size C b
 have hx17 := stC_size (some e)
 have a17 := stC_size s1
 have a1o := stC_one s1
 have b17 := stC_size s2
 have b1o := stC_one s2
 have z2 : (stC s2)[0]? = some (.bool s2.isSome) := by rw [Array.getElem?_eq_getElem (by omega), stC_zero s2]
 unfold CondPost at HW
 generalize wk C b = wa at *
 generalize stC (some e) = xa at *
 generalize s2.isSome = rb at *
 generalize hu1 : stC s1 = u1 at *
 generalize stC s2 = u2 at *
 have HU1 : Hid (_ = u1) := hu1
 have K0 : Hid (_ = _) := k0
 have K1 : Hid (_ = _) := k1
 have K2 : Hid (_ = _) := k2
 have K3 : Hid (_ = _) := k3
 have c2 := cell_of k1 2 (v := .int .i64 (k : Nat)) rfl
 have c3 := cell_of k1 3 (v := .iface tl ul) rfl
 have c4 := cell_of k1 4 (v := .iface tr ur) rfl
 have HB : Hid (Below w.heap.size w _) := kb
 have HA : Hid (AnAt C π T F w) := h
 have l1 : w.heap.size ≤ w.heap.size + 1 := by omega
 have l3 : w.heap.size ≤ w.heap.size + 1 + 1 + 1 := by omega
 clear h hs k0 k1 k2 k3 kb hu1 hr
 go_enter Tryz.func159, Tryz.ntmps159
 go_wp2_with (first
  | (refine wp_ldW rfl _ rfl rfl K0.out hws ?_)
  | (refine wp_ld rfl _ rfl rfl K2.out hx17 ?_))
 refine HW.mono ?_
 rintro r w1 ⟨rfl, a1, b1⟩
 have hsz : w.heap.size ≤ w1.heap.size := Nat.le_trans HB.out.size b1.below.size
 obtain ⟨t1, t2, t3, t4, tb⟩ := two_new w1 u1 u2 a17 b17
 have HT1 : Hid (_ = _) := t1
 have HT2 : Hid (_ = _) := t2
 have HT3 : Hid (_ = _) := t3
 have ho4 := (tb.block _ (heap_lt (b1.mine HA.out (Nat.le_refl _) K0.out))).trans (b1.mine HA.out (Nat.le_refl _) K0.out)
 have hc4 := (tb.block _ (heap_lt (b1.mine HA.out l1 K1.out))).trans (b1.mine HA.out l1 K1.out)
 have hz4 := (tb.block _ (heap_lt (b1.mine HA.out l3 K3.out))).trans (b1.mine HA.out l3 K3.out)
 have HO4 : Hid (_ = _) := ho4
 have HZ4 : Hid (_ = _) := hz4
 have g1 := cell_of hc4 1 (v := .int .i64 q) rfl
 have g0 := cell_of t4 0 z2
 have HA4 : Hid (AnAt C π T (told π b F es) _) := HA.out.upon a1 (tb.mono hsz)
 have HK4 : Hid (AKeep C w _) := AKeep.upon HA.out ((AKeep.of_below HB.out HA.out.le).trans b1) (tb.mono hsz)
 clear t1 t2 t3 t4 tb a1 b1 HW ho4 hc4 hz4
 go_wp2_with (first
  | (refine wp_st rfl _ _ rfl rfl (c := #[.bool false, .int .i16 0, .int .i16 0, .int .i16 0, .int .i16 0, .int .i16 0, .int .i16 0, .int .i16 0, .int .i16 0, .int .i16 0, .int .i16 0, .int .i16 0, .int .i16 0, .int .i16 0, .int .i16 0, .int .i16 0, .int .i16 0]) (d := u1) rfl (by exact HT1.out) rfl a17 a1o ?_)
  | (refine wp_st rfl _ _ rfl rfl (c := #[.bool false, .int .i16 0, .int .i16 0, .int .i16 0, .int .i16 0, .int .i16 0, .int .i16 0, .int .i16 0, .int .i16 0, .int .i16 0, .int .i16 0, .int .i16 0, .int .i16 0, .int .i16 0, .int .i16 0, .int .i16 0, .int .i16 0]) (d := u2) rfl (by exact HT2.out) rfl b17 b1o ?_)
  | (refine wp_ldW rfl _ rfl rfl (c := wa) (by exact HO4.out) hws ?_))
 generalize ((((w1.alloc (.cells #[.bool false, .int .i16 0, .int .i16 0, .int .i16 0, .int .i16 0, .int .i16 0, .int .i16 0, .int .i16 0, .int .i16 0, .int .i16 0, .int .i16 0, .int .i16 0, .int .i16 0, .int .i16 0, .int .i16 0, .int .i16 0, .int .i16 0] 220)).alloc (.cells #[.bool false, .int .i16 0, .int .i16 0, .int .i16 0, .int .i16 0, .int .i16 0, .int .i16 0, .int .i16 0, .int .i16 0, .int .i16 0, .int .i16 0, .int .i16 0, .int .i16 0, .int .i16 0, .int .i16 0, .int .i16 0, .int .i16 0] 220)).setCells w1.heap.size 0 u1.toList).setCells (w1.heap.size + 1) 0 u2.toList) = w4 at *
 refine (HSi.out _ HA4.out).mono ?_
 rintro r w5 ⟨rfl, a5, b5⟩
 have hx5 := b5.mine HA.out hsz HT3.out
 have hz5 := b5.mine HA.out l3 HZ4.out
 have HX5 : Hid (_ = _) := hx5
 have HZ5 : Hid (_ = _) := hz5
 have hr0 : Hid (_ = _) := setCells_whole hz5 (d := u1) (by rw [a17]; rfl)
 have HBf : Hid (Below w.heap.size w5 _) := setCells_below (b := w.heap.size + 1 + 1 + 1) l3 u1.toList 0 w5 _ (Below.refl _ _)
 have HA5 : Hid (AnAt C π T (told π b (told π b F es) [.site q rb]) w5) := a5
 have HK5 : Hid (AKeep C w w5) := HK4.out.trans b5
 clear a5 b5 hx5 hz5 g0 g1
 go_wp2_with (first
  | (refine wp_ld rfl _ rfl rfl HX5.out a17 ?_)
  | (refine wp_st rfl _ _ rfl rfl rfl HZ5.out rfl a17 a1o ?_))
 refine bodyPost_ret (results_st Tryz.results159 _ _ rfl hr0.out a17) rfl ⟨by rw [HU1.out], by rw [told_append]; exact HA.out.upon HA5.out HBf.out, AKeep.upon HA.out HK5.out HBf.out⟩
end WI
end Go.Proofs.YtiopfihjmkfdmaaGreatDoor
namespace Go.Proofs.YtiopfihjmkfdmaaGreatDoor
namespace WI
open Go.RowKit
set_option maxRecDepth 100000
set_option maxHeartbeats 4000000
def BlkAt (C : Cx) (π : Par) (T : Tab) (F : Fd) (b : Bool) (w : World) (v : Value) (s : ST) (es : List TelT) (u : ST) : Prop :=
 ∀ W, AKeep C w W → AnAt C π T F W → Calls Tryz.prog 82 #[.agg (wk C b), v, .agg (stC s)] W (Post C π T F b W es u)
structure BraAt (wa u1 u2 : Array Value) (ic : Array Value) (k n : Nat) (W : World) : Prop where
 o : W.heap[k]? = some (.cells wa 217)
 c : W.heap[k + 1]? = some (.cells ic 290)
 x : W.heap[n]? = some (.cells u1 220)
 y : W.heap[n + 1]? = some (.cells u2 220)
 z : ∃ d, d.size = 17 ∧ W.heap[k + 1 + 1 + 1]? = some (.cells d 220)
theorem BraAt.keep {wa u1 u2 ic : Array Value} {n : Nat} {C : Cx} {π : Par} {T : Tab} {F : Fd} {w W W' : World} (h : BraAt wa u1 u2 ic w.heap.size n W) (h0 : AnAt C π T F w) (hn : w.heap.size ≤ n) (b : AKeep C W W') : BraAt wa u1 u2 ic w.heap.size n W' := by
 obtain ⟨d, hd, hz⟩ := h.z
 exact ⟨b.mine h0 (Nat.le_refl _) h.o, b.mine h0 (by omega) h.c, b.mine h0 hn h.x, b.mine h0 (by omega) h.y, ⟨d, hd, b.mine h0 (by omega) hz⟩⟩
theorem BraAt.call {wa u1 u2 ic : Array Value} {k n : Nat} {W W' : World} (h : BraAt wa u1 u2 ic k n W) (b : Below W.heap.size W W') : BraAt wa u1 u2 ic k n W' := by
 obtain ⟨d, hd, hz⟩ := h.z
 exact ⟨(b.block _ (heap_lt h.o)).trans h.o, (b.block _ (heap_lt h.c)).trans h.c, (b.block _ (heap_lt h.x)).trans h.x, (b.block _ (heap_lt h.y)).trans h.y, ⟨d, hd, (b.block _ (heap_lt hz)).trans hz⟩⟩
theorem branch_calls (p : Int) (k : Nat) (tl : TypeId) (ul : Value) (tr : TypeId) (ur : Value) (av : Option Addr) (nv cv : Nat) (ae : Option Addr) (ne ce : Nat) (hb : Bool) (C : Cx) (π : Par) (T : Tab) (F : Fd) (b : Bool) (w : World) (e : Fin 8 → Sp.Iv) (es es1 es2 : List TelT) (s1 s2 v1 v2 u : ST) (h : AnAt C π T F w)
  (hs : CondsAt C π T F b k (.iface tl ul) (.iface tr ur) (some e) es s1 s2) (h1 : BlkAt C π T (told π b F es) b w (.slice av nv cv) s1 es1 v1) (h2 : BlkAt C π T (told π b (told π b F es) es1) b w (.slice ae ne ce) s2 es2 v2) (w1f : Sp.Wf (Kr π) v1) (w2f : Sp.Wf (Kr π) v2) (hu : Sp.jn (Dm π) v1 v2 = u) :
  Calls Tryz.prog 160 #[.agg (wk C b), .agg #[.int .i64 p, .int .i64 (k : Nat), .iface tl ul, .iface tr ur, .slice av nv cv, .slice ae ne ce, .bool hb], .agg (stC (some e))] w (Post C π T F b w (es ++ es1 ++ es2) u) := by
 obtain ⟨k0, k1, k2, k3, kb⟩ := laid4b (w := w) (o1 := .cells (wk C b) 217) (o2 := .cells #[.int .i64 p, .int .i64 (k : Nat), .iface tl ul, .iface tr ur, .slice av nv cv, .slice ae ne ce, .bool hb] 290) (o3 := .cells (stC (some e)) 220) (o4 := .cells #[.bool false, .int .i16 0, .int .i16 0, .int .i16 0, .int .i16 0, .int .i16 0, .int .i16 0, .int .i16 0, .int .i16 0, .int .i16 0, .int .i16 0, .int .i16 0, .int .i16 0, .int .i16 0, .int .i16 0, .int .i16 0, .int .i16 0] 220) (Below.refl _ _)
 have HW := hs _ (h.call kb)
 have hws := wk_size C b
 have hx17 := stC_size (some e)
 have a17 := stC_size s1
 have a1o := stC_one s1
 have b17 := stC_size s2
 have b1o := stC_one s2
 have u17 := stC_size u
 have u1o := stC_one u
 have H1 : Hid (∀ W, AKeep C w W → AnAt C π T (told π b F es) W → Calls _ _ _ W _) := h1
 have H2 : Hid (∀ W, AKeep C w W → AnAt C π T (told π b (told π b F es) es1) W → Calls _ _ _ W _) := h2
 have HJ : Hid (∀ W, Does C.base π C.dv W → Calls Tryz.prog 116 #[.agg (wk C b), .agg (stC v1), .agg (stC v2)] W fun e w' => e = .returned (.agg (stC u)) ∧ Below W.heap.size W w') := fun W hd => jn_calls (B := C.base) (π := π) C.dv C.dom C.delay C.narrow C.unroll C.th C.m _ v1 v2 u W hd hu w1f w2f
 unfold CondPost at HW
 unfold Post at H1 H2
 generalize wk C b = wa at *
 generalize stC (some e) = xa at *
 generalize stC s1 = q1 at *
 generalize stC s2 = q2 at *
 generalize stC v1 = r1 at *
 generalize stC v2 = r2 at *
 generalize huu : stC u = uu at *
 have HUU : Hid (_ = uu) := huu
 have K0 : Hid (_ = _) := k0
 have K1 : Hid (_ = _) := k1
 have K2 : Hid (_ = _) := k2
 have K3 : Hid (_ = _) := k3
 have c2 := cell_of k1 1 (v := .int .i64 (k : Nat)) rfl
 have c3 := cell_of k1 2 (v := .iface tl ul) rfl
 have c4 := cell_of k1 3 (v := .iface tr ur) rfl
 have HB : Hid (Below w.heap.size w _) := kb
 have HA : Hid (AnAt C π T F w) := h
 have l1 : w.heap.size ≤ w.heap.size + 1 := by omega
 have l3 : w.heap.size ≤ w.heap.size + 1 + 1 + 1 := by omega
 clear h hs k0 k1 k2 k3 kb huu h1 h2 hu w1f w2f
 go_enter Tryz.func160, Tryz.ntmps160
 go_wp2_with (first
  | (refine wp_ldW rfl _ rfl rfl K0.out hws ?_)
  | (refine wp_ld rfl _ rfl rfl K2.out hx17 ?_))
 refine HW.mono ?_
 rintro r w1 ⟨rfl, a1, b1⟩
 have hsz : w.heap.size ≤ w1.heap.size := Nat.le_trans HB.out.size b1.below.size
 have hk3 : w.heap.size + 1 + 1 + 1 < w1.heap.size := Nat.lt_of_lt_of_le (heap_lt K3.out) b1.below.size
 obtain ⟨t1, t2, t3, t4, tb⟩ := two_new w1 q1 q2 a17 b17
 have HT1 : Hid (_ = _) := t1
 have HT2 : Hid (_ = _) := t2
 have ho4 := (tb.block _ (heap_lt (b1.mine HA.out (Nat.le_refl _) K0.out))).trans (b1.mine HA.out (Nat.le_refl _) K0.out)
 have hc4 := (tb.block _ (heap_lt (b1.mine HA.out l1 K1.out))).trans (b1.mine HA.out l1 K1.out)
 have hz4 := (tb.block _ (heap_lt (b1.mine HA.out l3 K3.out))).trans (b1.mine HA.out l3 K3.out)
 have H0 : Hid (BraAt wa q1 q2 #[.int .i64 p, .int .i64 (k : Nat), .iface tl ul, .iface tr ur, .slice av nv cv, .slice ae ne ce, .bool hb] w.heap.size w1.heap.size ((((w1.alloc (.cells #[.bool false, .int .i16 0, .int .i16 0, .int .i16 0, .int .i16 0, .int .i16 0, .int .i16 0, .int .i16 0, .int .i16 0, .int .i16 0, .int .i16 0, .int .i16 0, .int .i16 0, .int .i16 0, .int .i16 0, .int .i16 0, .int .i16 0] 220)).alloc (.cells #[.bool false, .int .i16 0, .int .i16 0, .int .i16 0, .int .i16 0, .int .i16 0, .int .i16 0, .int .i16 0, .int .i16 0, .int .i16 0, .int .i16 0, .int .i16 0, .int .i16 0, .int .i16 0, .int .i16 0, .int .i16 0, .int .i16 0] 220)).setCells w1.heap.size 0 q1.toList).setCells (w1.heap.size + 1) 0 q2.toList).drew) := ⟨ho4, hc4, t3, t4, ⟨_, rfl, hz4⟩⟩
 have HA4 : Hid (AnAt C π T (told π b F es) ((((w1.alloc (.cells #[.bool false, .int .i16 0, .int .i16 0, .int .i16 0, .int .i16 0, .int .i16 0, .int .i16 0, .int .i16 0, .int .i16 0, .int .i16 0, .int .i16 0, .int .i16 0, .int .i16 0, .int .i16 0, .int .i16 0, .int .i16 0, .int .i16 0] 220)).alloc (.cells #[.bool false, .int .i16 0, .int .i16 0, .int .i16 0, .int .i16 0, .int .i16 0, .int .i16 0, .int .i16 0, .int .i16 0, .int .i16 0, .int .i16 0, .int .i16 0, .int .i16 0, .int .i16 0, .int .i16 0, .int .i16 0, .int .i16 0] 220)).setCells w1.heap.size 0 q1.toList).setCells (w1.heap.size + 1) 0 q2.toList).drew) := HA.out.upon a1 (tb.mono hsz).drew
 have HK4 : Hid (AKeep C w ((((w1.alloc (.cells #[.bool false, .int .i16 0, .int .i16 0, .int .i16 0, .int .i16 0, .int .i16 0, .int .i16 0, .int .i16 0, .int .i16 0, .int .i16 0, .int .i16 0, .int .i16 0, .int .i16 0, .int .i16 0, .int .i16 0, .int .i16 0, .int .i16 0] 220)).alloc (.cells #[.bool false, .int .i16 0, .int .i16 0, .int .i16 0, .int .i16 0, .int .i16 0, .int .i16 0, .int .i16 0, .int .i16 0, .int .i16 0, .int .i16 0, .int .i16 0, .int .i16 0, .int .i16 0, .int .i16 0, .int .i16 0, .int .i16 0] 220)).setCells w1.heap.size 0 q1.toList).setCells (w1.heap.size + 1) 0 q2.toList).drew) := AKeep.upon HA.out ((AKeep.of_below HB.out HA.out.le).trans b1) (tb.mono hsz).drew
 clear t1 t2 t3 t4 tb a1 b1 HW ho4 hc4 hz4
 go_wp2_with (first
  | (refine wp_st rfl _ _ rfl rfl (c := #[.bool false, .int .i16 0, .int .i16 0, .int .i16 0, .int .i16 0, .int .i16 0, .int .i16 0, .int .i16 0, .int .i16 0, .int .i16 0, .int .i16 0, .int .i16 0, .int .i16 0, .int .i16 0, .int .i16 0, .int .i16 0, .int .i16 0]) (d := q1) rfl (by exact HT1.out) rfl a17 a1o ?_)
  | (refine wp_st rfl _ _ rfl rfl (c := #[.bool false, .int .i16 0, .int .i16 0, .int .i16 0, .int .i16 0, .int .i16 0, .int .i16 0, .int .i16 0, .int .i16 0, .int .i16 0, .int .i16 0, .int .i16 0, .int .i16 0, .int .i16 0, .int .i16 0, .int .i16 0, .int .i16 0]) (d := q2) rfl (by exact HT2.out) rfl b17 b1o ?_))
 generalize ((((w1.alloc (.cells #[.bool false, .int .i16 0, .int .i16 0, .int .i16 0, .int .i16 0, .int .i16 0, .int .i16 0, .int .i16 0, .int .i16 0, .int .i16 0, .int .i16 0, .int .i16 0, .int .i16 0, .int .i16 0, .int .i16 0, .int .i16 0, .int .i16 0] 220)).alloc (.cells #[.bool false, .int .i16 0, .int .i16 0, .int .i16 0, .int .i16 0, .int .i16 0, .int .i16 0, .int .i16 0, .int .i16 0, .int .i16 0, .int .i16 0, .int .i16 0, .int .i16 0, .int .i16 0, .int .i16 0, .int .i16 0, .int .i16 0] 220)).setCells w1.heap.size 0 q1.toList).setCells (w1.heap.size + 1) 0 q2.toList) = w4 at *
 refine wp_region_held_drew (S := fun w' : World => BraAt wa q1 q2 #[.int .i64 p, .int .i64 (k : Nat), .iface tl ul, .iface tr ur, .slice av nv cv, .slice ae ne ce, .bool hb] w.heap.size w1.heap.size w') (by kernel_rfl) H0.out (fun hHeld => ?_)
 refine tky 0 rfl (yieldsIf_load_mid (by rfl) _ _ rfl _ _ rfl (wa).toList _ (fun w' h => range_of h.o) Tryz.underlying217 rfl (by rw [infoWk, Array.length_toList, hws])) hHeld ?_
 simp only [Act.put]
 refine tky 1 rfl (yieldsIf_load_mid (by rfl) _ _ rfl _ _ rfl (wa).toList _ (fun w' h => range_of h.o) Tryz.underlying217 rfl (by rw [infoWk, Array.length_toList, hws])) hHeld ?_
 simp only [Act.put]
 refine tky 6 rfl (yieldsIf_load_mid (by rfl) _ _ rfl _ _ rfl (wa).toList _ (fun w' h => range_of h.o) Tryz.underlying217 rfl (by rw [infoWk, Array.length_toList, hws])) hHeld ?_
 simp only [Act.put]
 refine tky 4 rfl (yieldsIf_load_mid (by rfl) _ _ rfl _ _ rfl (q1).toList _ (fun w' h => range_of h.x) Tryz.underlying220 rfl (by rw [infoSt, Array.length_toList, a17])) hHeld ?_
 simp only [Act.put]
 refine tky 9 rfl (yieldsIf_load_mid (by rfl) _ _ rfl _ _ rfl (q2).toList _ (fun w' h => range_of h.y) Tryz.underlying220 rfl (by rw [infoSt, Array.length_toList, b17])) hHeld ?_
 simp only [Act.put]
 refine tk 2 (.pointer (some ⟨w.heap.size + 1, 4, none⟩)) rfl (fun w' h => by go_simp) hHeld ?_
 simp only [Act.put]
 refine tk 3 (.slice av nv cv) rfl (fun w' h => by have d := cell_of h.c 4 (v := .slice av nv cv) rfl; go_simp) hHeld ?_
 simp only [Act.put]
 refine tk 7 (.pointer (some ⟨w.heap.size + 1, 5, none⟩)) rfl (fun w' h => by go_simp) hHeld ?_
 simp only [Act.put]
 refine tk 8 (.slice ae ne ce) rfl (fun w' h => by have d := cell_of h.c 5 (v := .slice ae ne ce) rfl; go_simp) hHeld ?_
 simp only [Act.put]
 refine rd1 5 fun K hK => ?_
 simp only [gsb, gsa, Array.toArray_toList]
 go_simp
 refine (H1.out _ HK4.out HA4.out).mono ?_
 rintro r w5 ⟨rfl, a5, b5⟩
 go_wp2_with fail
 have HA5 : Hid (AnAt C π T (told π b (told π b F es) es1) w5) := a5
 have HK5 : Hid (AKeep C w w5) := HK4.out.trans b5
 have hs5 := hHeld.keep HA.out hsz b5
 refine hK.out _ _ hs5 (fun hHeld => ?_)
 clear hK K hs5 a5 b5
 refine rd1 10 fun K hK => ?_
 simp only [gsb]
 go_simp
 refine (H2.out _ HK5.out HA5.out).mono ?_
 rintro r w6 ⟨rfl, a6, b6⟩
 go_wp2_with fail
 have HA6 : Hid (AnAt C π T (told π b (told π b (told π b F es) es1) es2) w6) := a6
 have HK6 : Hid (AKeep C w w6) := HK5.out.trans b6
 have hs6 := hHeld.keep HA.out hsz b6
 refine hK.out _ _ hs6 (fun hHeld => ?_)
 clear hK K hs6 a6 b6
 refine rd1 11 fun K hK => ?_
 simp only [gsb]
 go_simp
 refine (HJ.out _ HA6.out.does).mono ?_
 rintro r w7 ⟨rfl, b7⟩
 go_wp2_with fail
 have HA7 : Hid (AnAt C π T (told π b (told π b (told π b F es) es1) es2) w7) := HA6.out.call b7
 have HK7 : Hid (AKeep C w w7) := HK6.out.more b7 HA.out.le
 have hs7 := hHeld.call b7
 refine hK.out _ _ hs7 (fun hHeld => ?_)
 clear hK K hs7 b7
 obtain ⟨d, hd, hz⟩ := hHeld.z
 have hr0 : Hid (_ = _) := setCells_whole hz (d := uu) (by omega)
 have HBf : Hid (Below w.heap.size w7 _) := setCells_below (b := w.heap.size + 1 + 1 + 1) l3 uu.toList 0 w7 _ (Below.refl _ _)
 refine rd1 12 fun K hK => ?_
 simp only [gsb]
 rw [if_pos (by rfl)]
 refine wr_st _ _ rfl rfl rfl (by rw [← hd]; exact there_of hz) u17 u1o ?_
 refine hK.out _ _ ⟨(setCells_other _ _ _ _ (by omega)).trans hHeld.o, (setCells_other _ _ _ _ (by omega)).trans hHeld.c, (setCells_other _ _ _ _ (by omega)).trans hHeld.x, (setCells_other _ _ _ _ (by omega)).trans hHeld.y, ⟨uu, u17, hr0.out⟩⟩ (fun _ => ?_)
 clear hK K hHeld hz
 refine wpAnyH_done (by kernel_rfl) ?_ _
 go_wp2_with fail
 refine bodyPost_ret (results_st Tryz.results160 _ _ rfl hr0.out u17) rfl ⟨by rw [HUU.out], by rw [told_append, told_append]; exact HA.out.upon HA7.out HBf.out, AKeep.upon HA.out HK7.out HBf.out⟩
end WI
end Go.Proofs.YtiopfihjmkfdmaaGreatDoor
