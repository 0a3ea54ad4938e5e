import Derived.Test.YtiopfihjmkfdmaaGreatDoorS34
import Derived.Test.YtiopfihjmkfdmaaGreatDoorS1
import Derived.Test.YtiopfihjmkfdmaaGreatDoorS23
namespace Go.Proofs.YtiopfihjmkfdmaaGreatDoor
namespace WI
open Go.RowKit
set_option maxRecDepth 100000
set_option maxHeartbeats 4000000
theorem quiet_calls (C : Cx) (b : Bool) (w : World) :
  Calls Tryz.prog 244 #[.agg (wk C b)] w fun e w' => e = .returned (.agg (wk C false)) ∧ Below w.heap.size w w' := by
 unfold wk wkA
 simp only [Bool.false_eq_true, if_false]
 generalize (if b = true then some (⟨C.fb, 0, none⟩ : Addr) else none) = f
 go_enter Tryz.func244, Tryz.ntmps244
 go_wp2_with fail
 go_returns
 exact ⟨rfl, by go_grown⟩
theorem stmt_assign (p : Int) (k : Nat) (tv : TypeId) (uv : Value) (C : Cx) (π : Par) (T : Tab) (F : Fd) (b : Bool) (w : World) (e : Fin 8 → Sp.Iv) (es : List TelT) (u : ST) (h : AnAt C π T F w)
  (hs : ∀ W, AKeep C w W → AnAt C π T F W → Calls Tryz.prog 158 #[.agg (wk C b), .agg #[.int .i64 p, .int .i64 (k : Nat), .iface tv uv], .agg (stC (some e))] W (Post C π T F b W es u)) :
  Calls Tryz.prog 115 #[.agg (wk C b), .iface 279 (.agg #[.int .i64 p, .int .i64 (k : Nat), .iface tv uv]), .agg (stC (some e))] w (Post C π T F b w es u) := by
 have h1 := ts_1_1 (.agg #[.int .i64 p, .int .i64 (k : Nat), .iface tv uv])
 obtain ⟨k0, k1, k2, k3, kb⟩ := laid4b (w := w) (o1 := .cells (wk C b) 217) (o2 := .cells (stC (some e)) 220) (o3 := .cells #[.bool false, .int .i16 0, .int .i16 0, .int .i16 0, .int .i16 0, .int .i16 0, .int .i16 0, .int .i16 0, .int .i16 0, .int .i16 0, .int .i16 0, .int .i16 0, .int .i16 0, .int .i16 0, .int .i16 0, .int .i16 0, .int .i16 0] 220) (o4 := .cells #[.int .i64 p, .int .i64 (k : Nat), .iface tv uv] 279) (Below.refl _ _)
 have HW := hs _ (AKeep.of_below kb h.le) (h.call kb)
 have hws := wk_size C b
 have hx17 := stC_size (some e)
 have u17 := stC_size u
 have u1o := stC_one u
 unfold Post at HW
 generalize wk C b = wa at *
 generalize stC (some e) = xa at *
 generalize huu : stC u = uu at *
 have HUU : Hid (_ = uu) := huu
 have K0 : Hid (_ = _) := k0
 have K1 : Hid (_ = _) := k1
 have K2 : Hid (_ = _) := k2
 have HB : Hid (Below w.heap.size w _) := kb
 have HA : Hid (AnAt C π T F w) := h
 have l2 : w.heap.size ≤ w.heap.size + 1 + 1 := by omega
 clear h hs k0 k1 k2 k3 kb huu
 go_enter Tryz.func115, Tryz.ntmps115
 go_wp2_with (first
  | (refine wp_ldW rfl _ rfl rfl (c := wa) (by exact K0.out) hws ?_)
  | (refine wp_ld rfl _ rfl rfl (c := xa) (by exact K1.out) hx17 ?_))
 refine HW.mono ?_
 rintro r w1 ⟨rfl, a1, b1⟩
 have hz1 := b1.mine HA.out l2 K2.out
 have HZ1 : Hid (_ = _) := hz1
 have hr0 : Hid (_ = _) := setCells_whole hz1 (d := uu) (by rw [u17]; rfl)
 have HBf : Hid (Below w.heap.size w1 _) := setCells_below (b := w.heap.size + 1 + 1) l2 uu.toList 0 w1 _ (Below.refl _ _)
 have HA1 : Hid (AnAt C π T (told π b F es) w1) := a1
 have HK1 : Hid (AKeep C w w1) := (AKeep.of_below HB.out HA.out.le).trans b1
 clear a1 b1 HW hz1
 go_wp2_with (first
  | (refine wp_st rfl _ _ rfl rfl rfl HZ1.out rfl u17 u1o ?_))
 refine bodyPost_ret (results_st Tryz.results115 _ _ rfl hr0.out u17) rfl ⟨by rw [HUU.out], HA.out.upon HA1.out HBf.out, AKeep.upon HA.out HK1.out HBf.out⟩
theorem stmt_assert (p q : Int) (k : Nat) (tl : TypeId) (ul : Value) (tr : TypeId) (ur : Value) (C : Cx) (π : Par) (T : Tab) (F : Fd) (b : Bool) (w : World) (e : Fin 8 → Sp.Iv) (es : List TelT) (u : ST) (h : AnAt C π T F w)
  (hs : ∀ W, AKeep C w W → AnAt C π T F W → Calls Tryz.prog 159 #[.agg (wk C b), .agg #[.int .i64 p, .int .i64 q, .int .i64 (k : Nat), .iface tl ul, .iface tr ur], .agg (stC (some e))] W (Post C π T F b W es u)) :
  Calls Tryz.prog 115 #[.agg (wk C b), .iface 287 (.agg #[.int .i64 p, .int .i64 q, .int .i64 (k : Nat), .iface tl ul, .iface tr ur]), .agg (stC (some e))] w (Post C π T F b w es u) := by
 have h1 := ts_3_1 (.agg #[.int .i64 p, .int .i64 q, .int .i64 (k : Nat), .iface tl ul, .iface tr ur])
 have h2 := ts_3_2 (.agg #[.int .i64 p, .int .i64 q, .int .i64 (k : Nat), .iface tl ul, .iface tr ur])
 have h3 := ts_3_3 (.agg #[.int .i64 p, .int .i64 q, .int .i64 (k : Nat), .iface tl ul, .iface tr ur])
 obtain ⟨k0, k1, k2, k3, kb⟩ := laid4b (w := w) (o1 := .cells (wk C b) 217) (o2 := .cells (stC (some e)) 220) (o3 := .cells #[.bool false, .int .i16 0, .int .i16 0, .int .i16 0, .int .i16 0, .int .i16 0, .int .i16 0, .int .i16 0, .int .i16 0, .int .i16 0, .int .i16 0, .int .i16 0, .int .i16 0, .int .i16 0, .int .i16 0, .int .i16 0, .int .i16 0] 220) (o4 := .cells #[.int .i64 p, .int .i64 q, .int .i64 (k : Nat), .iface tl ul, .iface tr ur] 287) (Below.refl _ _)
 have HW := hs _ (AKeep.of_below kb h.le) (h.call kb)
 have hws := wk_size C b
 have hx17 := stC_size (some e)
 have u17 := stC_size u
 have u1o := stC_one u
 unfold Post at HW
 generalize wk C b = wa at *
 generalize stC (some e) = xa at *
 generalize huu : stC u = uu at *
 have HUU : Hid (_ = uu) := huu
 have K0 : Hid (_ = _) := k0
 have K1 : Hid (_ = _) := k1
 have K2 : Hid (_ = _) := k2
 have HB : Hid (Below w.heap.size w _) := kb
 have HA : Hid (AnAt C π T F w) := h
 have l2 : w.heap.size ≤ w.heap.size + 1 + 1 := by omega
 clear h hs k0 k1 k2 k3 kb huu
 go_enter Tryz.func115, Tryz.ntmps115
 go_wp2_with (first
  | (refine wp_ldW rfl _ rfl rfl (c := wa) (by exact K0.out) hws ?_)
  | (refine wp_ld rfl _ rfl rfl (c := xa) (by exact K1.out) hx17 ?_))
 refine HW.mono ?_
 rintro r w1 ⟨rfl, a1, b1⟩
 have hz1 := b1.mine HA.out l2 K2.out
 have HZ1 : Hid (_ = _) := hz1
 have hr0 : Hid (_ = _) := setCells_whole hz1 (d := uu) (by rw [u17]; rfl)
 have HBf : Hid (Below w.heap.size w1 _) := setCells_below (b := w.heap.size + 1 + 1) l2 uu.toList 0 w1 _ (Below.refl _ _)
 have HA1 : Hid (AnAt C π T (told π b F es) w1) := a1
 have HK1 : Hid (AKeep C w w1) := (AKeep.of_below HB.out HA.out.le).trans b1
 clear a1 b1 HW hz1
 go_wp2_with (first
  | (refine wp_st rfl _ _ rfl rfl rfl HZ1.out rfl u17 u1o ?_))
 refine bodyPost_ret (results_st Tryz.results115 _ _ rfl hr0.out u17) rfl ⟨by rw [HUU.out], HA.out.upon HA1.out HBf.out, AKeep.upon HA.out HK1.out HBf.out⟩
theorem stmt_if (p : Int) (k : Nat) (tl : TypeId) (ul : Value) (tr : TypeId) (ur : Value) (av : Option Addr) (nv cv : Nat) (ae : Option Addr) (ne ce : Nat) (hb : Bool) (C : Cx) (π : Par) (T : Tab) (F : Fd) (b : Bool) (w : World) (e : Fin 8 → Sp.Iv) (es : List TelT) (u : ST) (h : AnAt C π T F w)
  (hs : ∀ W, AKeep C w W → AnAt C π T F W → Calls Tryz.prog 160 #[.agg (wk C b), .agg #[.int .i64 p, .int .i64 (k : Nat), .iface tl ul, .iface tr ur, .slice av nv cv, .slice ae ne ce, .bool hb], .agg (stC (some e))] W (Post C π T F b W es u)) :
  Calls Tryz.prog 115 #[.agg (wk C b), .iface 290 (.agg #[.int .i64 p, .int .i64 (k : Nat), .iface tl ul, .iface tr ur, .slice av nv cv, .slice ae ne ce, .bool hb]), .agg (stC (some e))] w (Post C π T F b w es u) := by
 have h1 := ts_4_1 (.agg #[.int .i64 p, .int .i64 (k : Nat), .iface tl ul, .iface tr ur, .slice av nv cv, .slice ae ne ce, .bool hb])
 have h2 := ts_4_2 (.agg #[.int .i64 p, .int .i64 (k : Nat), .iface tl ul, .iface tr ur, .slice av nv cv, .slice ae ne ce, .bool hb])
 have h3 := ts_4_3 (.agg #[.int .i64 p, .int .i64 (k : Nat), .iface tl ul, .iface tr ur, .slice av nv cv, .slice ae ne ce, .bool hb])
 have h4 := ts_4_4 (.agg #[.int .i64 p, .int .i64 (k : Nat), .iface tl ul, .iface tr ur, .slice av nv cv, .slice ae ne ce, .bool hb])
 obtain ⟨k0, k1, k2, k3, kb⟩ := laid4b (w := w) (o1 := .cells (wk C b) 217) (o2 := .cells (stC (some e)) 220) (o3 := .cells #[.bool false, .int .i16 0, .int .i16 0, .int .i16 0, .int .i16 0, .int .i16 0, .int .i16 0, .int .i16 0, .int .i16 0, .int .i16 0, .int .i16 0, .int .i16 0, .int .i16 0, .int .i16 0, .int .i16 0, .int .i16 0, .int .i16 0] 220) (o4 := .cells #[.int .i64 p, .int .i64 (k : Nat), .iface tl ul, .iface tr ur, .slice av nv cv, .slice ae ne ce, .bool hb] 290) (Below.refl _ _)
 have HW := hs _ (AKeep.of_below kb h.le) (h.call kb)
 have hws := wk_size C b
 have hx17 := stC_size (some e)
 have u17 := stC_size u
 have u1o := stC_one u
 unfold Post at HW
 generalize wk C b = wa at *
 generalize stC (some e) = xa at *
 generalize huu : stC u = uu at *
 have HUU : Hid (_ = uu) := huu
 have K0 : Hid (_ = _) := k0
 have K1 : Hid (_ = _) := k1
 have K2 : Hid (_ = _) := k2
 have HB : Hid (Below w.heap.size w _) := kb
 have HA : Hid (AnAt C π T F w) := h
 have l2 : w.heap.size ≤ w.heap.size + 1 + 1 := by omega
 clear h hs k0 k1 k2 k3 kb huu
 go_enter Tryz.func115, Tryz.ntmps115
 go_wp2_with (first
  | (refine wp_ldW rfl _ rfl rfl (c := wa) (by exact K0.out) hws ?_)
  | (refine wp_ld rfl _ rfl rfl (c := xa) (by exact K1.out) hx17 ?_))
 refine HW.mono ?_
 rintro r w1 ⟨rfl, a1, b1⟩
 have hz1 := b1.mine HA.out l2 K2.out
 have HZ1 : Hid (_ = _) := hz1
 have hr0 : Hid (_ = _) := setCells_whole hz1 (d := uu) (by rw [u17]; rfl)
 have HBf : Hid (Below w.heap.size w1 _) := setCells_below (b := w.heap.size + 1 + 1) l2 uu.toList 0 w1 _ (Below.refl _ _)
 have HA1 : Hid (AnAt C π T (told π b F es) w1) := a1
 have HK1 : Hid (AKeep C w w1) := (AKeep.of_below HB.out HA.out.le).trans b1
 clear a1 b1 HW hz1
 go_wp2_with (first
  | (refine wp_st rfl _ _ rfl rfl rfl HZ1.out rfl u17 u1o ?_))
 refine bodyPost_ret (results_st Tryz.results115 _ _ rfl hr0.out u17) rfl ⟨by rw [HUU.out], HA.out.upon HA1.out HBf.out, AKeep.upon HA.out HK1.out HBf.out⟩
theorem stmt_while (p : Int) (k : Nat) (tl : TypeId) (ul : Value) (tr : TypeId) (ur : Value) (av : Option Addr) (nv cv : Nat) (C : Cx) (π : Par) (T : Tab) (F : Fd) (b : Bool) (w : World) (e : Fin 8 → Sp.Iv) (es : List TelT) (u : ST) (h : AnAt C π T F w)
  (hs : ∀ W, AKeep C w W → AnAt C π T F W → Calls Tryz.prog 161 #[.agg (wk C b), .agg #[.int .i64 p, .int .i64 (k : Nat), .iface tl ul, .iface tr ur, .slice av nv cv], .agg (stC (some e))] W (Post C π T F b W es u)) :
  Calls Tryz.prog 115 #[.agg (wk C b), .iface 293 (.agg #[.int .i64 p, .int .i64 (k : Nat), .iface tl ul, .iface tr ur, .slice av nv cv]), .agg (stC (some e))] w (Post C π T F b w es u) := by
 have h1 := ts_5_1 (.agg #[.int .i64 p, .int .i64 (k : Nat), .iface tl ul, .iface tr ur, .slice av nv cv])
 have h2 := ts_5_2 (.agg #[.int .i64 p, .int .i64 (k : Nat), .iface tl ul, .iface tr ur, .slice av nv cv])
 have h3 := ts_5_3 (.agg #[.int .i64 p, .int .i64 (k : Nat), .iface tl ul, .iface tr ur, .slice av nv cv])
 have h4 := ts_5_4 (.agg #[.int .i64 p, .int .i64 (k : Nat), .iface tl ul, .iface tr ur, .slice av nv cv])
 have h5 := ts_5_5 (.agg #[.int .i64 p, .int .i64 (k : Nat), .iface tl ul, .iface tr ur, .slice av nv cv])
 obtain ⟨k0, k1, k2, k3, kb⟩ := laid4b (w := w) (o1 := .cells (wk C b) 217) (o2 := .cells (stC (some e)) 220) (o3 := .cells #[.bool false, .int .i16 0, .int .i16 0, .int .i16 0, .int .i16 0, .int .i16 0, .int .i16 0, .int .i16 0, .int .i16 0, .int .i16 0, .int .i16 0, .int .i16 0, .int .i16 0, .int .i16 0, .int .i16 0, .int .i16 0, .int .i16 0] 220) (o4 := .cells #[.int .i64 p, .int .i64 (k : Nat), .iface tl ul, .iface tr ur, .slice av nv cv] 293) (Below.refl _ _)
 have HW := hs _ (AKeep.of_below kb h.le) (h.call kb)
 have hws := wk_size C b
 have hx17 := stC_size (some e)
 have u17 := stC_size u
 have u1o := stC_one u
 unfold Post at HW
 generalize wk C b = wa at *
 generalize stC (some e) = xa at *
 generalize huu : stC u = uu at *
 have HUU : Hid (_ = uu) := huu
 have K0 : Hid (_ = _) := k0
 have K1 : Hid (_ = _) := k1
 have K2 : Hid (_ = _) := k2
 have HB : Hid (Below w.heap.size w _) := kb
 have HA : Hid (AnAt C π T F w) := h
 have l2 : w.heap.size ≤ w.heap.size + 1 + 1 := by omega
 clear h hs k0 k1 k2 k3 kb huu
 go_enter Tryz.func115, Tryz.ntmps115
 go_wp2_with (first
  | (refine wp_ldW rfl _ rfl rfl (c := wa) (by exact K0.out) hws ?_)
  | (refine wp_ld rfl _ rfl rfl (c := xa) (by exact K1.out) hx17 ?_))
 refine HW.mono ?_
 rintro r w1 ⟨rfl, a1, b1⟩
 have hz1 := b1.mine HA.out l2 K2.out
 have HZ1 : Hid (_ = _) := hz1
 have hr0 : Hid (_ = _) := setCells_whole hz1 (d := uu) (by rw [u17]; rfl)
 have HBf : Hid (Below w.heap.size w1 _) := setCells_below (b := w.heap.size + 1 + 1) l2 uu.toList 0 w1 _ (Below.refl _ _)
 have HA1 : Hid (AnAt C π T (told π b F es) w1) := a1
 have HK1 : Hid (AKeep C w w1) := (AKeep.of_below HB.out HA.out.le).trans b1
 clear a1 b1 HW hz1
 go_wp2_with (first
  | (refine wp_st rfl _ _ rfl rfl rfl HZ1.out rfl u17 u1o ?_))
 refine bodyPost_ret (results_st Tryz.results115 _ _ rfl hr0.out u17) rfl ⟨by rw [HUU.out], HA.out.upon HA1.out HBf.out, AKeep.upon HA.out HK1.out HBf.out⟩
end WI
end Go.Proofs.YtiopfihjmkfdmaaGreatDoor
namespace Go.Proofs.YtiopfihjmkfdmaaGreatDoor
namespace WI
open Go.RowKit
set_option maxRecDepth 100000
set_option maxHeartbeats 4000000
structure ReaAt (wa : Array Value) (c0 c1 : Value) (k : Nat) (W : World) : Prop where
 o : W.heap[k]? = some (.cells wa 217)
 c : W.heap[k + 1 + 1 + 1]? = some (.cells #[c0, c1] 283)
theorem stmt_read (p : Int) (k : Nat) (hk : k < 8) (C : Cx) (π : Par) (T : Tab) (F : Fd) (b : Bool) (w : World) (e : Fin 8 → Sp.Iv) (h : AnAt C π T F w) :
  Calls Tryz.prog 115 #[.agg (wk C b), .iface 283 (.agg #[.int .i64 p, .int .i64 (k : Nat)]), .agg (stC (some e))] w (Post C π T F b w [] (show ST from some (Sp.setV (Dm π) e k vWhole))) := by
 have h1 := ts_2_1 (.agg #[.int .i64 p, .int .i64 (k : Nat)])
 have h2 := ts_2_2 (.agg #[.int .i64 p, .int .i64 (k : Nat)])
 obtain ⟨k0, k1, k2, k3, kb⟩ := laid4b (w := w) (o1 := .cells (wk C b) 217) (o2 := .cells (stC (some e)) 220) (o3 := .cells #[.bool false, .int .i16 0, .int .i16 0, .int .i16 0, .int .i16 0, .int .i16 0, .int .i16 0, .int .i16 0, .int .i16 0, .int .i16 0, .int .i16 0, .int .i16 0, .int .i16 0, .int .i16 0, .int .i16 0, .int .i16 0, .int .i16 0] 220) (o4 := .cells #[.int .i64 p, .int .i64 (k : Nat)] 283) (Below.refl _ _)
 have hk' : (k : Int) < 8 := by omega
 have hw0 := wk_zero C b
 obtain ⟨x0, x1⟩ := stC_get e ⟨k, hk⟩
 have hst := stC_set (π := π) e k hk vWhole
 have u17 := stC_size (show ST from some (Sp.setV (Dm π) e k vWhole))
 have u1o := stC_one (show ST from some (Sp.setV (Dm π) e k vWhole))
 have HD : Hid (∀ W, AnAt C π T F W → Calls _ _ _ W _) := fun W hW => dWhole hW.does
 generalize e ⟨k, hk⟩ = x at *
 simp only at x0 x1
 generalize wk C b = wa at *
 generalize stC (some e) = xa at *
 unfold Post
 generalize stC (show ST from some (Sp.setV (Dm π) e k vWhole)) = uu at *
 generalize (vWhole : Sp.Iv) = v at *
 have HST : Hid (_ = uu) := hst
 have K1 : Hid (_ = _) := k1
 have K2 : Hid (_ = _) := k2
 have H0 : Hid (ReaAt wa (.int .i64 p) (.int .i64 (k : Nat)) w.heap.size ((((w.alloc (.cells wa 217)).alloc (.cells xa 220)).alloc (.cells #[.bool false, .int .i16 0, .int .i16 0, .int .i16 0, .int .i16 0, .int .i16 0, .int .i16 0, .int .i16 0, .int .i16 0, .int .i16 0, .int .i16 0, .int .i16 0, .int .i16 0, .int .i16 0, .int .i16 0, .int .i16 0, .int .i16 0] 220)).alloc (.cells #[.int .i64 p, .int .i64 (k : Nat)] 283)).drew) := ⟨k0, k3⟩
 have HB : Hid (Below w.heap.size w ((((w.alloc (.cells wa 217)).alloc (.cells xa 220)).alloc (.cells #[.bool false, .int .i16 0, .int .i16 0, .int .i16 0, .int .i16 0, .int .i16 0, .int .i16 0, .int .i16 0, .int .i16 0, .int .i16 0, .int .i16 0, .int .i16 0, .int .i16 0, .int .i16 0, .int .i16 0, .int .i16 0, .int .i16 0] 220)).alloc (.cells #[.int .i64 p, .int .i64 (k : Nat)] 283)).drew) := kb.drew
 have HA : Hid (AnAt C π T F w) := h
 have l1 : w.heap.size ≤ w.heap.size + 1 := by omega
 have l2 : w.heap.size ≤ w.heap.size + 1 + 1 := by omega
 clear h k0 k1 k2 k3 kb hst
 go_enter Tryz.func115, Tryz.ntmps115
 go_wp2_with fail
 generalize (((w.alloc (.cells wa 217)).alloc (.cells xa 220)).alloc (.cells #[.bool false, .int .i16 0, .int .i16 0, .int .i16 0, .int .i16 0, .int .i16 0, .int .i16 0, .int .i16 0, .int .i16 0, .int .i16 0, .int .i16 0, .int .i16 0, .int .i16 0, .int .i16 0, .int .i16 0, .int .i16 0, .int .i16 0] 220)).alloc (.cells #[.int .i64 p, .int .i64 (k : Nat)] 283) = W at *
 refine wp_region_held_drew (S := fun w' : World => ReaAt wa (.int .i64 p) (.int .i64 (k : Nat)) w.heap.size w') (by kernel_rfl) H0.out (fun hHeld => ?_)
 refine tk 0 (.pointer (some ⟨w.heap.size + 1 + 1 + 1, 1, none⟩)) rfl (fun w' h => by go_simp) hHeld ?_
 simp only [Act.put]
 refine tk 1 (.int .i64 (k : Nat)) rfl (fun w' h => by have d := cell_of h.c 1 (v := .int .i64 (k : Nat)) rfl; go_simp) hHeld ?_
 simp only [Act.put]
 refine tk 2 (.pointer (some ⟨w.heap.size, 0, none⟩)) rfl (fun w' h => by go_simp) hHeld ?_
 simp only [Act.put]
 refine tk 3 (.iface 133 C.dv) rfl (fun w' h => by have d := cell_of h.o 0 hw0; go_simp) hHeld ?_
 simp only [Act.put]
 refine tk 5 (.pointer (some ⟨w.heap.size + 1, 1, none⟩)) rfl (fun w' h => by go_simp) hHeld ?_
 simp only [Act.put]
 refine rd1 4 fun K hK => ?_
 simp only [gsb, gsa]
 go_simp
 refine (HD.out _ (HA.out.call HB.out)).mono ?_
 rintro r w1 ⟨rfl, b1⟩
 go_wp2_with fail
 have HX1 : Hid (w1.heap[w.heap.size + 1]? = some (.cells xa 220)) := (b1.block _ (heap_lt (show W.drew.heap[w.heap.size + 1]? = _ from K1.out))).trans K1.out
 have HZ1 : Hid (w1.heap[w.heap.size + 1 + 1]? = some (.cells noneI 220)) := (b1.block _ (heap_lt (show W.drew.heap[w.heap.size + 1 + 1]? = _ from K2.out))).trans K2.out
 have HB1 : Hid (Below w.heap.size w w1) := HB.out.trans (b1.mono HB.out.size)
 have hs1 : ReaAt wa (.int .i64 p) (.int .i64 (k : Nat)) w.heap.size w1 := ⟨(b1.block _ (heap_lt hHeld.o)).trans hHeld.o, (b1.block _ (heap_lt hHeld.c)).trans hHeld.c⟩
 refine hK.out _ _ hs1 (fun hHeld => ?_)
 clear hK K hs1 b1
 refine tk 6 (.pointer (some ⟨w.heap.size + 1, 1 + k * 2, none⟩)) rfl (fun w' h => by go_simp) hHeld ?_
 simp only [Act.put]
 have y0 := cell_of HX1.out _ x0
 have y1 := cell_of HX1.out _ x1
 have f0 := frozen_of HX1.out (1 + k * 2)
 have f1 := frozen_of HX1.out (1 + k * 2 + 1)
 refine rd1 7 fun K hK => ?_
 simp only [gsb, gsa]
 go_simp
 have hx3 := heap_setCell_at (heap_setCell_at HX1.out (1 + k * 2) (.int .i16 v.a)) (1 + k * 2 + 1) (.int .i16 v.b)
 rw [HST.out] at hx3
 have o3 : ((w1.setCell ⟨w.heap.size + 1, 1 + k * 2, none⟩ (.int .i16 v.a)).setCell ⟨w.heap.size + 1, 1 + k * 2 + 1, none⟩ (.int .i16 v.b)).heap[w.heap.size]? = some (.cells wa 217) := by
  rw [Below.heap_setCell _ _ _ _ (show w.heap.size ≠ (⟨w.heap.size + 1, 1 + k * 2 + 1, none⟩ : Addr).block from by show w.heap.size ≠ w.heap.size + 1; omega), Below.heap_setCell _ _ _ _ (show w.heap.size ≠ (⟨w.heap.size + 1, 1 + k * 2, none⟩ : Addr).block from by show w.heap.size ≠ w.heap.size + 1; omega)]
  exact hHeld.o
 have c3 : ((w1.setCell ⟨w.heap.size + 1, 1 + k * 2, none⟩ (.int .i16 v.a)).setCell ⟨w.heap.size + 1, 1 + k * 2 + 1, none⟩ (.int .i16 v.b)).heap[w.heap.size + 1 + 1 + 1]? = some (.cells #[.int .i64 p, .int .i64 (k : Nat)] 283) := by
  rw [Below.heap_setCell _ _ _ _ (show w.heap.size + 1 + 1 + 1 ≠ (⟨w.heap.size + 1, 1 + k * 2 + 1, none⟩ : Addr).block from by show w.heap.size + 1 + 1 + 1 ≠ w.heap.size + 1; omega), Below.heap_setCell _ _ _ _ (show w.heap.size + 1 + 1 + 1 ≠ (⟨w.heap.size + 1, 1 + k * 2, none⟩ : Addr).block from by show w.heap.size + 1 + 1 + 1 ≠ w.heap.size + 1; omega)]
  exact hHeld.c
 have z3 : ((w1.setCell ⟨w.heap.size + 1, 1 + k * 2, none⟩ (.int .i16 v.a)).setCell ⟨w.heap.size + 1, 1 + k * 2 + 1, none⟩ (.int .i16 v.b)).heap[w.heap.size + 1 + 1]? = some (.cells noneI 220) := by
  rw [Below.heap_setCell _ _ _ _ (show w.heap.size + 1 + 1 ≠ (⟨w.heap.size + 1, 1 + k * 2 + 1, none⟩ : Addr).block from by show w.heap.size + 1 + 1 ≠ w.heap.size + 1; omega), Below.heap_setCell _ _ _ _ (show w.heap.size + 1 + 1 ≠ (⟨w.heap.size + 1, 1 + k * 2, none⟩ : Addr).block from by show w.heap.size + 1 + 1 ≠ w.heap.size + 1; omega)]
  exact HZ1.out
 have HX3 : Hid (_ = _) := hx3
 have HZ3 : Hid (_ = _) := z3
 have hr0 : Hid (_ = _) := setCells_whole z3 (d := uu) (by rw [u17]; rfl)
 have HBf : Hid (Below w.heap.size w _) := setCells_below (b := w.heap.size + 1 + 1) l2 uu.toList 0 w _ ((HB1.out.setCell (p := ⟨w.heap.size + 1, 1 + k * 2, none⟩) l1 (.int .i16 v.a)).setCell (p := ⟨w.heap.size + 1, 1 + k * 2 + 1, none⟩) l1 (.int .i16 v.b))
 refine hK.out _ _ ⟨o3, c3⟩ (fun _ => ?_)
 clear hK K hx3 o3 c3 z3 y0 y1 f0 f1 hHeld
 refine wpAnyH_done (by kernel_rfl) ?_ _
 generalize (w1.setCell ⟨w.heap.size + 1, 1 + k * 2, none⟩ (.int .i16 v.a)).setCell ⟨w.heap.size + 1, 1 + k * 2 + 1, none⟩ (.int .i16 v.b) = w3 at *
 go_wp2_with (first
  | (refine wp_ld rfl _ rfl rfl HX3.out u17 ?_)
  | (refine wp_st rfl _ _ rfl rfl rfl HZ3.out rfl u17 u1o ?_))
 refine bodyPost_ret (results_st Tryz.results115 _ _ rfl hr0.out u17) rfl ⟨rfl, by rw [told_nil]; exact HA.out.call HBf.out, AKeep.of_below HBf.out HA.out.le⟩
end WI
end Go.Proofs.YtiopfihjmkfdmaaGreatDoor
