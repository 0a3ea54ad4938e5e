import Derived.Test.YtiopfihjmkfdmaaGreatDoorS13
import Derived.Test.YtiopfihjmkfdmaaGreatDoorS32
namespace Go.Proofs.YtiopfihjmkfdmaaGreatDoor
namespace WI
open Go.RowKit
set_option maxRecDepth 100000
set_option maxHeartbeats 4000000
structure CatAt (wa xa : Array Value) (c0 vl vr : Value) (a b : Sp.Iv) (kw kl kr kc ks : Nat) (W : World) : Prop where
 o : W.heap[kw]? = some (.cells wa 217)
 l : W.heap[kl]? = some (.cells #[.int .i16 a.a, .int .i16 a.b] 131)
 r : W.heap[kr]? = some (.cells #[.int .i16 b.a, .int .i16 b.b] 131)
 c : W.heap[kc]? = some (.cells #[c0, vl, vr] 285)
 x : W.heap[ks]? = some (.cells xa 220)
theorem CatAt.call {wa xa : Array Value} {c0 vl vr : Value} {a b : Sp.Iv} {kw kl kr kc ks : Nat} {W W' : World} (h : CatAt wa xa c0 vl vr a b kw kl kr kc ks W) (k : Below W.heap.size W W') : CatAt wa xa c0 vl vr a b kw kl kr kc ks W' :=
 ⟨(k.block _ (heap_lt h.o)).trans h.o, (k.block _ (heap_lt h.l)).trans h.l, (k.block _ (heap_lt h.r)).trans h.r, (k.block _ (heap_lt h.c)).trans h.c, (k.block _ (heap_lt h.x)).trans h.x⟩
theorem behind_no {B : Nat} {π : Par} (r : Nat) (hr : r < 6) (dv : Value) (wa xa : Array Value) (hw0 : wa[0]? = some (.iface 133 dv)) (c0 vl vr : Value) (a b : Sp.Iv) (ha : Wv a) (hb : Wv b) (kw kl kr kc ks : Nat) (w : World) (hd : Does B π dv w) (hT : Turns w) (hG : 11 ≤ w.heap.size) (h : CatAt wa xa c0 vl vr a b kw kl kr kc ks w) (hm : vMay r a b = false) :
  Calls Tryz.prog 227 #[.int .i64 (r : Nat), .pointer (some ⟨kw, 0, none⟩), .pointer (some ⟨kl, 0, none⟩), .pointer (some ⟨kr, 0, none⟩), .pointer (some ⟨kc, 0, none⟩), .pointer (some ⟨ks, 0, none⟩)] w fun e w' => e = .returned (.agg (stC none)) ∧ Below w.heap.size w w' := by
 have kb := below_alloc1 w (.cells #[.bool false, .int .i16 0, .int .i16 0, .int .i16 0, .int .i16 0, .int .i16 0, .int .i16 0, .int .i16 0, .int .i16 0, .int .i16 0, .int .i16 0, .int .i16 0, .int .i16 0, .int .i16 0, .int .i16 0, .int .i16 0, .int .i16 0] 220)
 have h0 := h.call kb
 have HD := dMay (hd.below (kb.mono hd.size)) (hT.below kb hG) (Nat.le_trans hG kb.size) hr ha hb
 rw [hm] at HD
 have d0 := cell_of h0.o 0 hw0
 obtain ⟨x0, x1, _, _, _⟩ := res2 h0.l
 obtain ⟨y0, y1, _, _, _⟩ := res2 h0.r
 have HZ : Hid (_ = _) := heap_alloc_new w (.cells #[.bool false, .int .i16 0, .int .i16 0, .int .i16 0, .int .i16 0, .int .i16 0, .int .i16 0, .int .i16 0, .int .i16 0, .int .i16 0, .int .i16 0, .int .i16 0, .int .i16 0, .int .i16 0, .int .i16 0, .int .i16 0, .int .i16 0] 220)
 have HB : Hid (Below w.heap.size w _) := kb
 obtain ⟨na, hna⟩ : ∃ na, na = noneI := ⟨_, rfl⟩
 have n17 : na.size = 17 := by rw [hna]; rfl
 have HNA : Hid (na = noneI) := hna
 clear hna h0 h hd hT kb
 go_enter Tryz.func227, Tryz.ntmps227
 go_wp2_with fail
 refine HD.mono ?_
 rintro q w1 ⟨rfl, b1⟩
 have hz1 := (b1.block _ (heap_lt HZ.out)).trans HZ.out
 have HZ1 : Hid (_ = _) := hz1
 have hr0 : Hid (_ = _) := setCells_whole hz1 (d := na) (by rw [n17]; rfl)
 have HBf : Hid (Below w.heap.size w _) := setCells_below (b := w.heap.size) (Nat.le_refl _) na.toList 0 w _ (HB.out.trans (b1.mono HB.out.size))
 clear b1 hz1 HD d0 x0 x1 y0 y1
 go_wp2_with (first
  | (refine wp_stZ rfl _ _ rfl rfl rfl HNA.out HZ1.out rfl ?_))
 refine bodyPost_ret (results_st Tryz.results227 _ _ rfl hr0.out n17) rfl ⟨by rw [HNA.out]; rfl, HBf.out⟩
theorem behind_yes {B : Nat} {π : Par} (r : Nat) (hr : r < 6) (hm6 : Sp.mirror r < 6) (dv : Value) (wa : Array Value) (hw0 : wa[0]? = some (.iface 133 dv)) (hws : wa.size = 8) (c0 vl vr : Value) (tl tr : TypeId) (ul ur : Value) (hvl : vl = .iface tl ul) (hvr : vr = .iface tr ur) (x y : Sp.Sm) (hl : SideIs vl x) (hy : SideIs vr y) (a b : Sp.Iv) (ha : Wv a) (hb : Wv b) (e : Fin 8 → Sp.Iv) (he : ∀ k, Wv (e k)) (kw kl kr kc ks : Nat) (w : World) (hd : Does B π dv w) (hT : Turns w) (hG : 11 ≤ w.heap.size) (h : CatAt wa (stC (some e)) c0 vl vr a b kw kl kr kc ks w) (hm : vMay r a b = true) (s1 u : ST) (hs1 : Sp.bndV (Dm π) x r b (some e) = s1) (hu : Sp.bndV (Dm π) y (Sp.mirror r) a s1 = u) :
  Calls Tryz.prog 227 #[.int .i64 (r : Nat), .pointer (some ⟨kw, 0, none⟩), .pointer (some ⟨kl, 0, none⟩), .pointer (some ⟨kr, 0, none⟩), .pointer (some ⟨kc, 0, none⟩), .pointer (some ⟨ks, 0, none⟩)] w fun e w' => e = .returned (.agg (stC u)) ∧ Below w.heap.size w w' := by
 have kb := below_alloc1 w (.cells #[.bool false, .int .i16 0, .int .i16 0, .int .i16 0, .int .i16 0, .int .i16 0, .int .i16 0, .int .i16 0, .int .i16 0, .int .i16 0, .int .i16 0, .int .i16 0, .int .i16 0, .int .i16 0, .int .i16 0, .int .i16 0, .int .i16 0] 220)
 have h0 := h.call kb
 have HD := dMay (hd.below (kb.mono hd.size)) (hT.below kb hG) (Nat.le_trans hG kb.size) hr ha hb
 rw [hm] at HD
 have w1f : Sp.Wf (Kr π) s1 := by rw [← hs1]; exact Sp.bndV_wf (Sp.Wf.some he) hb
 have HB1 : Hid (∀ W, Below w.heap.size w W → Calls _ _ _ W _) := fun W hW => bound_calls (B := B) (π := π) vl x hl r hr dv wa hw0 b hb (some e) (Sp.Wf.some he) W (hd.below (hW.mono hd.size)) s1 hs1
 have HB2 : Hid (∀ W, Below w.heap.size w W → Calls _ _ _ W _) := fun W hW => bound_calls (B := B) (π := π) vr y hy (Sp.mirror r) hm6 dv wa hw0 a ha s1 w1f W (hd.below (hW.mono hd.size)) u hu
 have HM : Hid (∀ W, Below w.heap.size w W → Calls _ _ _ W _) := fun W hW => mirror_calls r hr W (hT.below hW hG)
 have lo := heap_lt h.o
 have ll := heap_lt h.l
 have lr := heap_lt h.r
 have lc := heap_lt h.c
 have lx := heap_lt h.x
 have d0 := cell_of h0.o 0 hw0
 obtain ⟨x0, x1, _, _, _⟩ := res2 h0.l
 obtain ⟨y0, y1, _, _, _⟩ := res2 h0.r
 subst hvl hvr
 have hx17 := stC_size (some e)
 have hu17 := stC_size u
 have hu1 := stC_one u
 generalize stC (some e) = xa at *
 generalize stC s1 = sa at *
 generalize stC u = ua at *
 have HZ : Hid (_ = _) := heap_alloc_new w (.cells #[.bool false, .int .i16 0, .int .i16 0, .int .i16 0, .int .i16 0, .int .i16 0, .int .i16 0, .int .i16 0, .int .i16 0, .int .i16 0, .int .i16 0, .int .i16 0, .int .i16 0, .int .i16 0, .int .i16 0, .int .i16 0, .int .i16 0] 220)
 have HB : Hid (Below w.heap.size w _) := kb
 have HC : Hid (CatAt wa xa c0 (.iface tl ul) (.iface tr ur) a b kw kl kr kc ks _) := h0
 clear h0 h hd hT kb
 go_enter Tryz.func227, Tryz.ntmps227
 go_wp2_with fail
 refine HD.mono ?_
 rintro q w1 ⟨rfl, b1⟩
 have HB3 : Hid (Below w.heap.size w w1.drew) := (HB.out.trans (b1.mono HB.out.size)).drew
 have H0 : Hid (CatAt wa xa c0 (.iface tl ul) (.iface tr ur) a b kw kl kr kc ks w1.drew ∧ w1.drew.heap[w.heap.size]? = some (.cells #[.bool false, .int .i16 0, .int .i16 0, .int .i16 0, .int .i16 0, .int .i16 0, .int .i16 0, .int .i16 0, .int .i16 0, .int .i16 0, .int .i16 0, .int .i16 0, .int .i16 0, .int .i16 0, .int .i16 0, .int .i16 0, .int .i16 0] 220) ∧ Below w.heap.size w w1.drew) := ⟨HC.out.call b1.drew, (b1.block _ (heap_lt HZ.out)).trans HZ.out, HB3.out⟩
 clear b1 HD d0 x0 x1 y0 y1
 go_wp2_with fail
 refine wp_region_held_drew (S := fun w' : World => CatAt wa xa c0 (.iface tl ul) (.iface tr ur) a b kw kl kr kc ks w' ∧ (∃ c, c.size = 17 ∧ w'.heap[w.heap.size]? = some (.cells c 220)) ∧ Below w.heap.size w w') (by kernel_rfl) ⟨H0.out.1, ⟨_, rfl, H0.out.2.1⟩, H0.out.2.2⟩ (fun hHeld => ?_)
 refine tky 0 rfl (yieldsIf_load_mid (by rfl) _ _ rfl _ _ rfl (wa).toList _ (fun w' h => range_of h.1.o) Tryz.underlying217 rfl (by rw [infoWk, Array.length_toList, hws])) hHeld ?_
 simp only [Act.put]
 refine tky 6 rfl (yieldsIf_load_mid (by rfl) _ _ rfl _ _ rfl (wa).toList _ (fun w' h => range_of h.1.o) Tryz.underlying217 rfl (by rw [infoWk, Array.length_toList, hws])) hHeld ?_
 simp only [Act.put]
 refine tky 11 rfl (yieldsIf_load_mid (by rfl) _ _ rfl _ _ rfl (xa).toList _ (fun w' h => range_of h.1.x) Tryz.underlying220 rfl (by rw [infoSt, Array.length_toList, hx17])) hHeld ?_
 simp only [Act.put]
 refine tk 1 (.pointer (some ⟨kc, 2, none⟩)) rfl (fun w' h => by go_simp) hHeld ?_
 simp only [Act.put]
 refine tk 2 (.iface tr ur) rfl (fun w' h => by have d := cell_of h.1.c 2 (v := .iface tr ur) rfl; go_simp) hHeld ?_
 simp only [Act.put]
 refine tk 3 (.int .i64 (r : Nat)) rfl (fun w' h => by go_simp) hHeld ?_
 simp only [Act.put]
 refine tk 5 (.agg #[.int .i16 a.a, .int .i16 a.b]) rfl (fun w' h => by (have d0 := cell_of h.1.l 0 (v := .int .i16 a.a) rfl); have d1 := cell_of h.1.l 1 (v := .int .i16 a.b) rfl; go_simp) hHeld ?_
 simp only [Act.put]
 refine tk 7 (.pointer (some ⟨kc, 1, none⟩)) rfl (fun w' h => by go_simp) hHeld ?_
 simp only [Act.put]
 refine tk 8 (.iface tl ul) rfl (fun w' h => by have d := cell_of h.1.c 1 (v := .iface tl ul) rfl; go_simp) hHeld ?_
 simp only [Act.put]
 refine tk 9 (.int .i64 (r : Nat)) rfl (fun w' h => by go_simp) hHeld ?_
 simp only [Act.put]
 refine tk 10 (.agg #[.int .i16 b.a, .int .i16 b.b]) rfl (fun w' h => by (have d0 := cell_of h.1.r 0 (v := .int .i16 b.a) rfl); have d1 := cell_of h.1.r 1 (v := .int .i16 b.b) rfl; go_simp) hHeld ?_
 simp only [Act.put]
 refine rd1 4 fun K hK => ?_
 simp only [gsb, gsa, Array.toArray_toList]
 go_simp
 refine (HM.out _ hHeld.2.2).mono ?_
 rintro q w2 ⟨rfl, rfl⟩
 go_wp2_with fail
 refine hK.out _ _ hHeld (fun hHeld => ?_)
 clear hK K
 refine rd1 12 fun K hK => ?_
 simp only [gsb]
 go_simp
 refine (HB1.out _ hHeld.2.2).mono ?_
 rintro q w3 ⟨rfl, b3⟩
 go_wp2_with fail
 obtain ⟨c3, hc3, hz3⟩ := hHeld.2.1
 have hs3 : CatAt wa xa c0 (.iface tl ul) (.iface tr ur) a b kw kl kr kc ks w3 ∧ (∃ c, c.size = 17 ∧ w3.heap[w.heap.size]? = some (.cells c 220)) ∧ Below w.heap.size w w3 := ⟨hHeld.1.call b3, ⟨c3, hc3, (b3.block _ (heap_lt hz3)).trans hz3⟩, hHeld.2.2.trans (b3.mono hHeld.2.2.size)⟩
 refine hK.out _ _ hs3 (fun hHeld => ?_)
 clear hK K hs3 b3 hz3
 refine rd1 13 fun K hK => ?_
 simp only [gsb]
 go_simp
 refine (HB2.out _ hHeld.2.2).mono ?_
 rintro q w4 ⟨rfl, b4⟩
 go_wp2_with fail
 obtain ⟨c4, hc4, hz4⟩ := hHeld.2.1
 have hz5 := (b4.block _ (heap_lt hz4)).trans hz4
 have hs4 : CatAt wa xa c0 (.iface tl ul) (.iface tr ur) a b kw kl kr kc ks w4 ∧ (∃ c, c.size = 17 ∧ w4.heap[w.heap.size]? = some (.cells c 220)) ∧ Below w.heap.size w w4 := ⟨hHeld.1.call b4, ⟨c4, hc4, hz5⟩, hHeld.2.2.trans (b4.mono hHeld.2.2.size)⟩
 refine hK.out _ _ hs4 (fun hHeld => ?_)
 clear hK K hs4 b4 hz4
 have hr0 : Hid (_ = _) := setCells_whole hz5 (d := ua) (by omega)
 have HBf : Hid (Below w.heap.size w _) := setCells_below (b := w.heap.size) (Nat.le_refl _) ua.toList 0 w _ hHeld.2.2
 refine rd1 14 fun K hK => ?_
 simp only [gsb]
 rw [if_pos (by rfl)]
 refine wr_st _ _ rfl rfl rfl (by rw [← hc4]; exact there_of hz5) hu17 hu1 ?_
 refine hK.out _ _ ⟨⟨(setCells_other _ _ _ _ (by omega)).trans hHeld.1.o, (setCells_other _ _ _ _ (by omega)).trans hHeld.1.l, (setCells_other _ _ _ _ (by omega)).trans hHeld.1.r, (setCells_other _ _ _ _ (by omega)).trans hHeld.1.c, (setCells_other _ _ _ _ (by omega)).trans hHeld.1.x⟩, ⟨ua, hu17, hr0.out⟩, HBf.out⟩ (fun _ => ?_)
 clear hK K
 refine wpAnyH_done (by kernel_rfl) ?_ _
 go_wp2_with fail
 refine bodyPost_ret (results_st Tryz.results227 _ _ rfl hr0.out hu17) rfl ⟨rfl, HBf.out⟩
theorem behind_calls {B : Nat} {π : Par} (r : Nat) (hr : r < 6) (dv : Value) (wa : Array Value) (hw0 : wa[0]? = some (.iface 133 dv)) (hws : wa.size = 8) (c0 : Value) (tl tr : TypeId) (ul ur : Value) (x y : Sp.Sm) (hl : SideIs (.iface tl ul) x) (hy : SideIs (.iface tr ur) y) (a b : Sp.Iv) (ha : Wv a) (hb : Wv b) (e : Fin 8 → Sp.Iv) (he : ∀ k, Wv (e k)) (kw kl kr kc ks : Nat) (w : World) (hd : Does B π dv w) (hT : Turns w) (hG : 11 ≤ w.heap.size) (h : CatAt wa (stC (some e)) c0 (.iface tl ul) (.iface tr ur) a b kw kl kr kc ks w) (u : ST) (hu : Sp.behindV (Dm π) r x y a b e = u) :
  Calls Tryz.prog 227 #[.int .i64 (r : Nat), .pointer (some ⟨kw, 0, none⟩), .pointer (some ⟨kl, 0, none⟩), .pointer (some ⟨kr, 0, none⟩), .pointer (some ⟨kc, 0, none⟩), .pointer (some ⟨ks, 0, none⟩)] w fun e w' => e = .returned (.agg (stC u)) ∧ Below w.heap.size w w' := by
 have hm6 : Sp.mirror r < 6 := by
  rcases (show r = 0 ∨ r = 1 ∨ r = 2 ∨ r = 3 ∨ r = 4 ∨ r = 5 from by omega) with rfl | rfl | rfl | rfl | rfl | rfl <;> decide
 cases hm : vMay r a b with
 | false =>
  have : u = none := by
   rw [← hu]
   exact Sp.behind_none (Dm π) r x y a b e hm
  subst this
  exact behind_no r hr dv wa _ hw0 c0 _ _ a b ha hb kw kl kr kc ks w hd hT hG h hm
 | true =>
  exact behind_yes r hr hm6 dv wa hw0 hws c0 _ _ tl tr ul ur rfl rfl x y hl hy a b ha hb e he kw kl kr kc ks w hd hT hG h hm _ u rfl ((Sp.behind_some (Dm π) r x y a b e hm).symm.trans hu)
end WI
end Go.Proofs.YtiopfihjmkfdmaaGreatDoor
namespace Go.Proofs.YtiopfihjmkfdmaaGreatDoor
namespace WI
open Go.RowKit
set_option maxRecDepth 100000
set_option maxHeartbeats 1000000
def SumsAt (C : Cx) (π : Par) (T : Tab) (F : Fd) (b : Bool) (v : Value) (e : Fin 8 → Sp.Iv) (es : List TelT) (o : Option Sp.Iv) : Prop :=
 ∀ W, AnAt C π T F W → Calls Tryz.prog 197 #[.agg (wk C b), v, .agg (stC (some e))] W (SumPost C π T F b W es o)
theorem negation_calls (tv : TypeId) (uv : Value) (C : Cx) (π : Par) (T : Tab) (F : Fd) (b : Bool) (w : World) (e : Fin 8 → Sp.Iv) (es : List TelT) (o : Option Sp.Iv) (h : AnAt C π T F w)
  (hs : SumsAt C π T F b (.iface tv uv) e es o) (hwf : ∀ a, o = some a → Wv a) :
  Calls Tryz.prog 224 #[.agg (wk C b), .agg #[.iface tv uv], .agg (stC (some e))] w (SumPost C π T F b w es (o.map vNeg)) := by
 obtain ⟨k0, k1, k2, k3, kb⟩ := laid4b (w := w) (o1 := .cells (wk C b) 217) (o2 := .cells #[.iface tv uv] 330) (o3 := .cells (stC (some e)) 220) (o4 := .cells #[.int .i16 0, .int .i16 0] 131) (Below.refl _ _)
 have HW := hs _ (h.call kb)
 have hw0 := wk_zero C b
 have hws := wk_size C b
 have hx17 := stC_size (some e)
 generalize wk C b = wa at *
 generalize stC (some e) = xa at *
 have K0 : Hid (_ = _) := k0
 have K2 : Hid (_ = _) := k2
 have K3 : Hid (_ = _) := k3
 have c1 := cell_of k1 0 (v := .iface tv uv) rfl
 have HB : Hid (Below w.heap.size w _) := kb
 have HA : Hid (AnAt C π T F w) := h
 have hle : w.heap.size ≤ w.heap.size + 1 + 1 + 1 := by omega
 clear h k0 k1 k2 k3 kb hs
 cases o with
 | none =>
  go_enter Tryz.func224, Tryz.ntmps224
  go_wp2_with (first
   | (refine wp_ldW rfl _ rfl rfl K0.out hws ?_)
   | (refine wp_ld rfl _ rfl rfl K2.out hx17 ?_))
  refine HW.mono ?_
  rintro r w1 ⟨rfl, a1, b1⟩
  have hz1 := b1.mine HA.out hle K3.out
  obtain ⟨m0, m1, mf0, mf1, mq⟩ := res2 hz1
  have h2 := two_set hz1 (.int .i16 0) (.int .i16 0)
  obtain ⟨q0, q1, qf0, qf1, _⟩ := res2 h2
  have H4 : Hid (_ = _) := two_set h2 (.int .i16 0) (.int .i16 0)
  have HB4 : Hid (Below w.heap.size w1 _) := Below.two (Below.two (Below.refl w.heap.size w1) hle (.int .i16 0) (.int .i16 0)) hle (.int .i16 0) (.int .i16 0)
  have HA1 : Hid (AnAt C π T (told π b F es) w1) := a1
  have HK1 : Hid (AKeep C w w1) := (AKeep.of_below HB.out HA.out.le).trans b1
  clear mq hz1 a1 b1 HW h2
  simp only [opV]
  go_wp2_with fail
  have Q0 := cell_of H4.out 0 (v := .int .i16 0) rfl
  have Q1 := cell_of H4.out 1 (v := .int .i16 0) rfl
  refine bodyPost_ret (v := .tuple #[.agg #[.int .i16 0, .int .i16 0], .bool false]) (by simp [results, Tryz.results224, go_sem, Q0, Q1]) rfl ?_
  exact ⟨rfl, HA.out.upon HA1.out HB4.out, AKeep.upon HA.out HK1.out HB4.out⟩
 | some a =>
  have wa' := hwf a rfl
  go_enter Tryz.func224, Tryz.ntmps224
  go_wp2_with (first
   | (refine wp_ldW rfl _ rfl rfl K0.out hws ?_)
   | (refine wp_ld rfl _ rfl rfl K2.out hx17 ?_))
  refine HW.mono ?_
  rintro r w1 ⟨rfl, a1, b1⟩
  have hz1 := b1.mine HA.out hle K3.out
  have ho1 := b1.mine HA.out (Nat.le_refl _) K0.out
  obtain ⟨m0, m1, mf0, mf1, mq⟩ := res2 hz1
  have h2 := two_set hz1 (.int .i16 a.a) (.int .i16 a.b)
  have HB2 : Hid (Below w.heap.size w1 _) := Below.two (Below.refl w.heap.size w1) hle (.int .i16 a.a) (.int .i16 a.b)
  obtain ⟨q0, q1, qf0, qf1, _⟩ := res2 h2
  have hne : w.heap.size ≠ w.heap.size + 1 + 1 + 1 := by omega
  have d0 := cell_of (two_other hne ho1 (.int .i16 a.a) (.int .i16 a.b)) 0 hw0
  have HA1 : Hid (AnAt C π T (told π b F es) w1) := a1
  have HK1 : Hid (AKeep C w w1) := (AKeep.of_below HB.out HA.out.le).trans b1
  have H2 : Hid (_ = _) := h2
  have b1s := b1.below.size
  have HD := dNegate (HA.out.upon a1 HB2.out).does wa'
  clear mq hz1 a1 b1 HW h2 ho1 hne
  simp only [opV]
  go_wp2_with fail
  refine HD.mono ?_
  rintro r w2 ⟨rfl, b2⟩
  have hsz := Nat.le_trans (Nat.le_trans HB.out.size b1s) HB2.out.size
  have h3 := (b2.block _ (heap_lt H2.out)).trans H2.out
  obtain ⟨p0, p1, pf0, pf1, _⟩ := res2 h3
  have h4 := two_set h3 (.int .i16 (vNeg a).a) (.int .i16 (vNeg a).b)
  obtain ⟨s0, s1, sf0, sf1, _⟩ := res2 h4
  have H5 : Hid (_ = _) := two_set h4 (.int .i16 (vNeg a).a) (.int .i16 (vNeg a).b)
  have HB5 : Hid (Below w.heap.size w1 _) := Below.two (Below.two (HB2.out.trans (b2.mono hsz)) hle (.int .i16 (vNeg a).a) (.int .i16 (vNeg a).b)) hle (.int .i16 (vNeg a).a) (.int .i16 (vNeg a).b)
  clear b2 h3 h4 HD q0 q1 qf0 qf1 m0 m1 mf0 mf1 d0
  go_wp2_with fail
  have Q0 := cell_of H5.out 0 (v := .int .i16 (vNeg a).a) rfl
  have Q1 := cell_of H5.out 1 (v := .int .i16 (vNeg a).b) rfl
  refine bodyPost_ret (v := .tuple #[.agg #[.int .i16 (vNeg a).a, .int .i16 (vNeg a).b], .bool true]) (by simp [results, Tryz.results224, go_sem, Q0, Q1]) rfl ?_
  exact ⟨rfl, HA.out.upon HA1.out HB5.out, AKeep.upon HA.out HK1.out HB5.out⟩
end WI
end Go.Proofs.YtiopfihjmkfdmaaGreatDoor
namespace Go.Proofs.YtiopfihjmkfdmaaGreatDoor
namespace WI
open Go.RowKit
set_option maxRecDepth 100000
set_option maxHeartbeats 1000000
def SidesPost (C : Cx) (π : Par) (T : Tab) (F : Fd) (b : Bool) (w : World) (es : List TelT) (o : Option (Sp.Iv × Sp.Iv)) (r : Ending) (w' : World) : Prop :=
 (match o with
   | some (x, y) => r = .returned (.tuple #[.agg #[.int .i16 x.a, .int .i16 x.b], .agg #[.int .i16 y.a, .int .i16 y.b], .bool true])
   | none => ∃ i j k l : Int, r = .returned (.tuple #[.agg #[.int .i16 i, .int .i16 j], .agg #[.int .i16 k, .int .i16 l], .bool false])) ∧ AnAt C π T (told π b F es) w' ∧ AKeep C w w'
theorem sides_no (tl : TypeId) (ul : Value) (tr : TypeId) (ur : Value) (C : Cx) (π : Par) (T : Tab) (F : Fd) (b : Bool) (w : World) (e : Fin 8 → Sp.Iv) (es : List TelT) (h : AnAt C π T F w)
  (hs : SumsAt C π T F b (.iface tl ul) e es none) :
  Calls Tryz.prog 226 #[.agg (wk C b), .iface tl ul, .iface tr ur, .agg (stC (some e))] w (SidesPost C π T F b w es none) := by
 obtain ⟨k0, k1, k2, k3, kb⟩ := laid4b (w := w) (o1 := .cells (wk C b) 217) (o2 := .cells (stC (some e)) 220) (o3 := .cells #[.int .i16 0, .int .i16 0] 131) (o4 := .cells #[.int .i16 0, .int .i16 0] 131) (Below.refl _ _)
 have HW := hs _ (h.call kb)
 have hws := wk_size C b
 have hx17 := stC_size (some e)
 generalize wk C b = wa at *
 generalize stC (some e) = xa at *
 have K0 : Hid (_ = _) := k0
 have K1 : Hid (_ = _) := k1
 have K2 : Hid (_ = _) := k2
 have K3 : Hid (_ = _) := k3
 have HB : Hid (Below w.heap.size w _) := kb
 have HA : Hid (AnAt C π T F w) := h
 have hle2 : w.heap.size ≤ w.heap.size + 1 + 1 := by omega
 have hle3 : w.heap.size ≤ w.heap.size + 1 + 1 + 1 := by omega
 have h32 : w.heap.size + 1 + 1 + 1 ≠ w.heap.size + 1 + 1 := by omega
 have h23 : w.heap.size + 1 + 1 ≠ w.heap.size + 1 + 1 + 1 := by omega
 clear h k0 k1 k2 k3 kb hs
 go_enter Tryz.func226, Tryz.ntmps226
 go_wp2_with (first
  | (refine wp_ldW rfl _ rfl rfl K0.out hws ?_)
  | (refine wp_ld rfl _ rfl rfl K1.out hx17 ?_))
 refine HW.mono ?_
 rintro r w1 ⟨rfl, a1, b1⟩
 have hx1 := b1.mine HA.out hle2 K2.out
 have hy1 := b1.mine HA.out hle3 K3.out
 obtain ⟨m0, m1, mf0, mf1, _⟩ := res2 hx1
 have hx2 := two_set hx1 (.int .i16 0) (.int .i16 0)
 have hy2 := two_other h32 hy1 (.int .i16 0) (.int .i16 0)
 have HK1 : Hid (AKeep C w w1) := (AKeep.of_below HB.out HA.out.le).trans b1
 have HB2 : Hid (Below w.heap.size w1 _) := Below.two (Below.refl w.heap.size w1) hle2 (.int .i16 0) (.int .i16 0)
 obtain ⟨q0, q1, qf0, qf1, _⟩ := res2 hx2
 obtain ⟨p0, p1, pf0, pf1, _⟩ := res2 hy2
 have HA1 : Hid (AnAt C π T (told π b F es) w1) := a1
 have HX2 : Hid (_ = _) := hx2
 have HY2 : Hid (_ = _) := hy2
 clear a1 b1 HW hx1 hy1 hx2 hy2
 simp only [opV]
 go_wp2_with fail
 generalize (w1.setCell ⟨w.heap.size + 1 + 1, 0, none⟩ (.int .i16 0)).setCell ⟨w.heap.size + 1 + 1, 1, none⟩ (.int .i16 0) = w2 at *
 have HX3 : Hid (((((w2.setCell ⟨w.heap.size + 1 + 1, 0, none⟩ (.int .i16 0)).setCell ⟨w.heap.size + 1 + 1, 1, none⟩ (.int .i16 0)).setCell ⟨w.heap.size + 1 + 1 + 1, 0, none⟩ (.int .i16 0)).setCell ⟨w.heap.size + 1 + 1 + 1, 1, none⟩ (.int .i16 0)).drew.heap[w.heap.size + 1 + 1]? = some (.cells #[.int .i16 0, .int .i16 0] 131)) := two_other h23 (two_set HX2.out (.int .i16 0) (.int .i16 0)) (.int .i16 0) (.int .i16 0)
 have HY3 : Hid (((((w2.setCell ⟨w.heap.size + 1 + 1, 0, none⟩ (.int .i16 0)).setCell ⟨w.heap.size + 1 + 1, 1, none⟩ (.int .i16 0)).setCell ⟨w.heap.size + 1 + 1 + 1, 0, none⟩ (.int .i16 0)).setCell ⟨w.heap.size + 1 + 1 + 1, 1, none⟩ (.int .i16 0)).drew.heap[w.heap.size + 1 + 1 + 1]? = some (.cells #[.int .i16 0, .int .i16 0] 131)) := two_set (two_other h32 HY2.out (.int .i16 0) (.int .i16 0)) (.int .i16 0) (.int .i16 0)
 have HB3 : Hid (Below w.heap.size w1 ((((w2.setCell ⟨w.heap.size + 1 + 1, 0, none⟩ (.int .i16 0)).setCell ⟨w.heap.size + 1 + 1, 1, none⟩ (.int .i16 0)).setCell ⟨w.heap.size + 1 + 1 + 1, 0, none⟩ (.int .i16 0)).setCell ⟨w.heap.size + 1 + 1 + 1, 1, none⟩ (.int .i16 0)).drew) := (Below.two (Below.two HB2.out hle2 (.int .i16 0) (.int .i16 0)) hle3 (.int .i16 0) (.int .i16 0)).drew
 go_region_with (fail)
 all_goals
  go_wp2_with fail
  have Q0 := cell_of HX3.out 0 (v := .int .i16 0) rfl
  have Q1 := cell_of HX3.out 1 (v := .int .i16 0) rfl
  have Q2 := cell_of HY3.out 0 (v := .int .i16 0) rfl
  have Q3 := cell_of HY3.out 1 (v := .int .i16 0) rfl
  simp only [World.cell?_drew] at Q0 Q1 Q2 Q3
  refine bodyPost_ret (v := .tuple #[.agg #[.int .i16 0, .int .i16 0], .agg #[.int .i16 0, .int .i16 0], .bool false]) (by simp [results, Tryz.results226, go_sem, Q0, Q1, Q2, Q3]) rfl ?_
  exact ⟨⟨_, _, _, _, rfl⟩, HA.out.upon HA1.out HB3.out, AKeep.upon HA.out HK1.out HB3.out⟩
theorem sides_half (tl : TypeId) (ul : Value) (tr : TypeId) (ur : Value) (C : Cx) (π : Par) (T : Tab) (F : Fd) (b : Bool) (w : World) (e : Fin 8 → Sp.Iv) (es : List TelT) (es2 : List TelT) (a : Sp.Iv) (h : AnAt C π T F w)
  (hs : SumsAt C π T F b (.iface tl ul) e es (some a))
  (hs2 : SumsAt C π T (told π b F es) b (.iface tr ur) e es2 none) :
  Calls Tryz.prog 226 #[.agg (wk C b), .iface tl ul, .iface tr ur, .agg (stC (some e))] w (SidesPost C π T F b w (es ++ es2) none) := by
 obtain ⟨k0, k1, k2, k3, kb⟩ := laid4b (w := w) (o1 := .cells (wk C b) 217) (o2 := .cells (stC (some e)) 220) (o3 := .cells #[.int .i16 0, .int .i16 0] 131) (o4 := .cells #[.int .i16 0, .int .i16 0] 131) (Below.refl _ _)
 have HW := hs _ (h.call kb)
 have hws := wk_size C b
 have hx17 := stC_size (some e)
 have HS2 : Hid (_) := hs2
 unfold SumsAt at HS2
 clear hs2
 generalize wk C b = wa at *
 generalize stC (some e) = xa at *
 have K0 : Hid (_ = _) := k0
 have K1 : Hid (_ = _) := k1
 have K2 : Hid (_ = _) := k2
 have K3 : Hid (_ = _) := k3
 have HB : Hid (Below w.heap.size w _) := kb
 have HA : Hid (AnAt C π T F w) := h
 have hle2 : w.heap.size ≤ w.heap.size + 1 + 1 := by omega
 have hle3 : w.heap.size ≤ w.heap.size + 1 + 1 + 1 := by omega
 have h32 : w.heap.size + 1 + 1 + 1 ≠ w.heap.size + 1 + 1 := by omega
 have h23 : w.heap.size + 1 + 1 ≠ w.heap.size + 1 + 1 + 1 := by omega
 clear h k0 k1 k2 k3 kb hs
 go_enter Tryz.func226, Tryz.ntmps226
 go_wp2_with (first
  | (refine wp_ldW rfl _ rfl rfl K0.out hws ?_)
  | (refine wp_ld rfl _ rfl rfl K1.out hx17 ?_))
 refine HW.mono ?_
 rintro r w1 ⟨rfl, a1, b1⟩
 have hx1 := b1.mine HA.out hle2 K2.out
 have hy1 := b1.mine HA.out hle3 K3.out
 obtain ⟨m0, m1, mf0, mf1, _⟩ := res2 hx1
 have hx2 := two_set hx1 (.int .i16 a.a) (.int .i16 a.b)
 have hy2 := two_other h32 hy1 (.int .i16 a.a) (.int .i16 a.b)
 have HK1 : Hid (AKeep C w w1) := (AKeep.of_below HB.out HA.out.le).trans b1
 have HB2 : Hid (Below w.heap.size w1 _) := Below.two (Below.refl w.heap.size w1) hle2 (.int .i16 a.a) (.int .i16 a.b)
 obtain ⟨q0, q1, qf0, qf1, _⟩ := res2 hx2
 have HA1 : Hid (AnAt C π T (told π b F es) w1) := a1
 have ho1 := two_other (show w.heap.size ≠ w.heap.size + 1 + 1 by omega) (b1.mine HA.out (Nat.le_refl _) K0.out) (.int .i16 a.a) (.int .i16 a.b)
 have hs1 := two_other (show w.heap.size + 1 ≠ w.heap.size + 1 + 1 by omega) (b1.mine HA.out (Nat.le_succ _) K1.out) (.int .i16 a.a) (.int .i16 a.b)
 have HO1 : Hid (_ = _) := ho1
 have HS1 : Hid (_ = _) := hs1
 have HX2 : Hid (_ = _) := hx2
 have HY2 : Hid (_ = _) := hy2
 have HW2 := HS2.out _ (HA.out.upon a1 HB2.out)
 clear a1 b1 HW hx1 hy1 hx2 hy2 ho1 hs1 HS2
 simp only [opV]
 go_wp2_with (first
  | (refine wp_ldW rfl _ rfl rfl HO1.out hws ?_)
  | (refine wp_ld rfl _ rfl rfl HS1.out hx17 ?_))
 refine HW2.mono ?_
 rintro r w3 ⟨rfl, a3, b3⟩
 have hx3 := b3.mine HA.out hle2 HX2.out
 have hy3 := b3.mine HA.out hle3 HY2.out
 obtain ⟨n0, n1, nf0, nf1, _⟩ := res2 hy3
 have hx4 := two_other h23 hx3 (.int .i16 0) (.int .i16 0)
 have hy4 := two_set hy3 (.int .i16 0) (.int .i16 0)
 obtain ⟨r0, r1, rf0, rf1, _⟩ := res2 hx4
 obtain ⟨p0, p1, pf0, pf1, _⟩ := res2 hy4
 have HA3 : Hid (AnAt C π T (told π b (told π b F es) es2) w3) := a3
 have HK3 : Hid (AKeep C w w3) := (AKeep.upon HA.out HK1.out HB2.out).trans b3
 have HB4 : Hid (Below w.heap.size w3 _) := Below.two (Below.refl w.heap.size w3) hle3 (.int .i16 0) (.int .i16 0)
 clear HX2 HY2
 have HX2 : Hid (_ = _) := hx4
 have HY2 : Hid (_ = _) := hy4
 clear a3 b3 HW2 hx3 hy3 hx4 hy4 q0 q1 qf0 qf1 m0 m1 mf0 mf1
 try simp only [opV]
 go_wp2_with fail
 generalize (w3.setCell ⟨w.heap.size + 1 + 1 + 1, 0, none⟩ (.int .i16 0)).setCell ⟨w.heap.size + 1 + 1 + 1, 1, none⟩ (.int .i16 0) = w4 at *
 have HX3 : Hid (((((w4.setCell ⟨w.heap.size + 1 + 1, 0, none⟩ (.int .i16 a.a)).setCell ⟨w.heap.size + 1 + 1, 1, none⟩ (.int .i16 a.b)).setCell ⟨w.heap.size + 1 + 1 + 1, 0, none⟩ (.int .i16 0)).setCell ⟨w.heap.size + 1 + 1 + 1, 1, none⟩ (.int .i16 0)).drew.heap[w.heap.size + 1 + 1]? = some (.cells #[.int .i16 a.a, .int .i16 a.b] 131)) := two_other h23 (two_set HX2.out (.int .i16 a.a) (.int .i16 a.b)) (.int .i16 0) (.int .i16 0)
 have HY3 : Hid (((((w4.setCell ⟨w.heap.size + 1 + 1, 0, none⟩ (.int .i16 a.a)).setCell ⟨w.heap.size + 1 + 1, 1, none⟩ (.int .i16 a.b)).setCell ⟨w.heap.size + 1 + 1 + 1, 0, none⟩ (.int .i16 0)).setCell ⟨w.heap.size + 1 + 1 + 1, 1, none⟩ (.int .i16 0)).drew.heap[w.heap.size + 1 + 1 + 1]? = some (.cells #[.int .i16 0, .int .i16 0] 131)) := two_set (two_other h32 HY2.out (.int .i16 a.a) (.int .i16 a.b)) (.int .i16 0) (.int .i16 0)
 have HB3 : Hid (Below w.heap.size w3 ((((w4.setCell ⟨w.heap.size + 1 + 1, 0, none⟩ (.int .i16 a.a)).setCell ⟨w.heap.size + 1 + 1, 1, none⟩ (.int .i16 a.b)).setCell ⟨w.heap.size + 1 + 1 + 1, 0, none⟩ (.int .i16 0)).setCell ⟨w.heap.size + 1 + 1 + 1, 1, none⟩ (.int .i16 0)).drew) := (Below.two (Below.two HB4.out hle2 (.int .i16 a.a) (.int .i16 a.b)) hle3 (.int .i16 0) (.int .i16 0)).drew
 go_region_with (fail)
 all_goals
  go_wp2_with fail
  have Q0 := cell_of HX3.out 0 (v := .int .i16 a.a) rfl
  have Q1 := cell_of HX3.out 1 (v := .int .i16 a.b) rfl
  have Q2 := cell_of HY3.out 0 (v := .int .i16 0) rfl
  have Q3 := cell_of HY3.out 1 (v := .int .i16 0) rfl
  simp only [World.cell?_drew] at Q0 Q1 Q2 Q3
  refine bodyPost_ret (v := .tuple #[.agg #[.int .i16 a.a, .int .i16 a.b], .agg #[.int .i16 0, .int .i16 0], .bool false]) (by simp [results, Tryz.results226, go_sem, Q0, Q1, Q2, Q3]) rfl ?_
  exact ⟨⟨_, _, _, _, rfl⟩, by rw [told_append]; exact HA.out.upon HA3.out HB3.out, AKeep.upon HA.out HK3.out HB3.out⟩
theorem sides_both (tl : TypeId) (ul : Value) (tr : TypeId) (ur : Value) (C : Cx) (π : Par) (T : Tab) (F : Fd) (b : Bool) (w : World) (e : Fin 8 → Sp.Iv) (es : List TelT) (es2 : List TelT) (a c : Sp.Iv) (h : AnAt C π T F w)
  (hs : SumsAt C π T F b (.iface tl ul) e es (some a))
  (hs2 : SumsAt C π T (told π b F es) b (.iface tr ur) e es2 (some c)) :
  Calls Tryz.prog 226 #[.agg (wk C b), .iface tl ul, .iface tr ur, .agg (stC (some e))] w (SidesPost C π T F b w (es ++ es2) (some (a, c))) := by
 obtain ⟨k0, k1, k2, k3, kb⟩ := laid4b (w := w) (o1 := .cells (wk C b) 217) (o2 := .cells (stC (some e)) 220) (o3 := .cells #[.int .i16 0, .int .i16 0] 131) (o4 := .cells #[.int .i16 0, .int .i16 0] 131) (Below.refl _ _)
 have HW := hs _ (h.call kb)
 have hws := wk_size C b
 have hx17 := stC_size (some e)
 have HS2 : Hid (_) := hs2
 unfold SumsAt at HS2
 clear hs2
 generalize wk C b = wa at *
 generalize stC (some e) = xa at *
 have K0 : Hid (_ = _) := k0
 have K1 : Hid (_ = _) := k1
 have K2 : Hid (_ = _) := k2
 have K3 : Hid (_ = _) := k3
 have HB : Hid (Below w.heap.size w _) := kb
 have HA : Hid (AnAt C π T F w) := h
 have hle2 : w.heap.size ≤ w.heap.size + 1 + 1 := by omega
 have hle3 : w.heap.size ≤ w.heap.size + 1 + 1 + 1 := by omega
 have h32 : w.heap.size + 1 + 1 + 1 ≠ w.heap.size + 1 + 1 := by omega
 have h23 : w.heap.size + 1 + 1 ≠ w.heap.size + 1 + 1 + 1 := by omega
 clear h k0 k1 k2 k3 kb hs
 go_enter Tryz.func226, Tryz.ntmps226
 go_wp2_with (first
  | (refine wp_ldW rfl _ rfl rfl K0.out hws ?_)
  | (refine wp_ld rfl _ rfl rfl K1.out hx17 ?_))
 refine HW.mono ?_
 rintro r w1 ⟨rfl, a1, b1⟩
 have hx1 := b1.mine HA.out hle2 K2.out
 have hy1 := b1.mine HA.out hle3 K3.out
 obtain ⟨m0, m1, mf0, mf1, _⟩ := res2 hx1
 have hx2 := two_set hx1 (.int .i16 a.a) (.int .i16 a.b)
 have hy2 := two_other h32 hy1 (.int .i16 a.a) (.int .i16 a.b)
 have HK1 : Hid (AKeep C w w1) := (AKeep.of_below HB.out HA.out.le).trans b1
 have HB2 : Hid (Below w.heap.size w1 _) := Below.two (Below.refl w.heap.size w1) hle2 (.int .i16 a.a) (.int .i16 a.b)
 obtain ⟨q0, q1, qf0, qf1, _⟩ := res2 hx2
 have HA1 : Hid (AnAt C π T (told π b F es) w1) := a1
 have ho1 := two_other (show w.heap.size ≠ w.heap.size + 1 + 1 by omega) (b1.mine HA.out (Nat.le_refl _) K0.out) (.int .i16 a.a) (.int .i16 a.b)
 have hs1 := two_other (show w.heap.size + 1 ≠ w.heap.size + 1 + 1 by omega) (b1.mine HA.out (Nat.le_succ _) K1.out) (.int .i16 a.a) (.int .i16 a.b)
 have HO1 : Hid (_ = _) := ho1
 have HS1 : Hid (_ = _) := hs1
 have HX2 : Hid (_ = _) := hx2
 have HY2 : Hid (_ = _) := hy2
 have HW2 := HS2.out _ (HA.out.upon a1 HB2.out)
 clear a1 b1 HW hx1 hy1 hx2 hy2 ho1 hs1 HS2
 simp only [opV]
 go_wp2_with (first
  | (refine wp_ldW rfl _ rfl rfl HO1.out hws ?_)
  | (refine wp_ld rfl _ rfl rfl HS1.out hx17 ?_))
 refine HW2.mono ?_
 rintro r w3 ⟨rfl, a3, b3⟩
 have hx3 := b3.mine HA.out hle2 HX2.out
 have hy3 := b3.mine HA.out hle3 HY2.out
 obtain ⟨n0, n1, nf0, nf1, _⟩ := res2 hy3
 have hx4 := two_other h23 hx3 (.int .i16 c.a) (.int .i16 c.b)
 have hy4 := two_set hy3 (.int .i16 c.a) (.int .i16 c.b)
 obtain ⟨r0, r1, rf0, rf1, _⟩ := res2 hx4
 obtain ⟨p0, p1, pf0, pf1, _⟩ := res2 hy4
 have HA3 : Hid (AnAt C π T (told π b (told π b F es) es2) w3) := a3
 have HK3 : Hid (AKeep C w w3) := (AKeep.upon HA.out HK1.out HB2.out).trans b3
 have HB4 : Hid (Below w.heap.size w3 _) := Below.two (Below.refl w.heap.size w3) hle3 (.int .i16 c.a) (.int .i16 c.b)
 clear HX2 HY2
 have HX2 : Hid (_ = _) := hx4
 have HY2 : Hid (_ = _) := hy4
 clear a3 b3 HW2 hx3 hy3 hx4 hy4 q0 q1 qf0 qf1 m0 m1 mf0 mf1
 try simp only [opV]
 go_wp2_with fail
 generalize (w3.setCell ⟨w.heap.size + 1 + 1 + 1, 0, none⟩ (.int .i16 c.a)).setCell ⟨w.heap.size + 1 + 1 + 1, 1, none⟩ (.int .i16 c.b) = w4 at *
 have HX3 : Hid (((((w4.setCell ⟨w.heap.size + 1 + 1, 0, none⟩ (.int .i16 a.a)).setCell ⟨w.heap.size + 1 + 1, 1, none⟩ (.int .i16 a.b)).setCell ⟨w.heap.size + 1 + 1 + 1, 0, none⟩ (.int .i16 c.a)).setCell ⟨w.heap.size + 1 + 1 + 1, 1, none⟩ (.int .i16 c.b)).drew.heap[w.heap.size + 1 + 1]? = some (.cells #[.int .i16 a.a, .int .i16 a.b] 131)) := two_other h23 (two_set HX2.out (.int .i16 a.a) (.int .i16 a.b)) (.int .i16 c.a) (.int .i16 c.b)
 have HY3 : Hid (((((w4.setCell ⟨w.heap.size + 1 + 1, 0, none⟩ (.int .i16 a.a)).setCell ⟨w.heap.size + 1 + 1, 1, none⟩ (.int .i16 a.b)).setCell ⟨w.heap.size + 1 + 1 + 1, 0, none⟩ (.int .i16 c.a)).setCell ⟨w.heap.size + 1 + 1 + 1, 1, none⟩ (.int .i16 c.b)).drew.heap[w.heap.size + 1 + 1 + 1]? = some (.cells #[.int .i16 c.a, .int .i16 c.b] 131)) := two_set (two_other h32 HY2.out (.int .i16 a.a) (.int .i16 a.b)) (.int .i16 c.a) (.int .i16 c.b)
 have HB3 : Hid (Below w.heap.size w3 ((((w4.setCell ⟨w.heap.size + 1 + 1, 0, none⟩ (.int .i16 a.a)).setCell ⟨w.heap.size + 1 + 1, 1, none⟩ (.int .i16 a.b)).setCell ⟨w.heap.size + 1 + 1 + 1, 0, none⟩ (.int .i16 c.a)).setCell ⟨w.heap.size + 1 + 1 + 1, 1, none⟩ (.int .i16 c.b)).drew) := (Below.two (Below.two HB4.out hle2 (.int .i16 a.a) (.int .i16 a.b)) hle3 (.int .i16 c.a) (.int .i16 c.b)).drew
 go_region_with (fail)
 all_goals
  go_wp2_with fail
  have Q0 := cell_of HX3.out 0 (v := .int .i16 a.a) rfl
  have Q1 := cell_of HX3.out 1 (v := .int .i16 a.b) rfl
  have Q2 := cell_of HY3.out 0 (v := .int .i16 c.a) rfl
  have Q3 := cell_of HY3.out 1 (v := .int .i16 c.b) rfl
  simp only [World.cell?_drew] at Q0 Q1 Q2 Q3
  refine bodyPost_ret (v := .tuple #[.agg #[.int .i16 a.a, .int .i16 a.b], .agg #[.int .i16 c.a, .int .i16 c.b], .bool true]) (by simp [results, Tryz.results226, go_sem, Q0, Q1, Q2, Q3]) rfl ?_
  exact ⟨rfl, by rw [told_append]; exact HA.out.upon HA3.out HB3.out, AKeep.upon HA.out HK3.out HB3.out⟩
end WI
end Go.Proofs.YtiopfihjmkfdmaaGreatDoor
