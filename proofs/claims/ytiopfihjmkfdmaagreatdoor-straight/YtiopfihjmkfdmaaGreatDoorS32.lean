import Derived.Test.YtiopfihjmkfdmaaGreatDoorS31
import Derived.Test.YtiopfihjmkfdmaaGreatDoorS23
namespace Go.Proofs.YtiopfihjmkfdmaaGreatDoor
namespace WI
open Go.RowKit
set_option maxRecDepth 100000
set_option maxHeartbeats 4000000
structure CatAt (wa xa : Array Value) (c0 vl vr : Value) (a b : Sp.Iv) (kw kl kr kc ks : Nat) (W : World) : Prop where
 o : W.heap[kw]? = some (.cells wa 217)
 l : W.heap[kl]? = some (.cells #[.int .i16 a.a, .int .i16 a.b] 131)
 r : W.heap[kr]? = some (.cells #[.int .i16 b.a, .int .i16 b.b] 131)
 c : W.heap[kc]? = some (.cells #[c0, vl, vr] 285)
 x : W.heap[ks]? = some (.cells xa 220)
theorem CatAt.call {wa xa : Array Value} {c0 vl vr : Value} {a b : Sp.Iv} {kw kl kr kc ks : Nat} {W W' : World} (h : CatAt wa xa c0 vl vr a b kw kl kr kc ks W) (k : Below W.heap.size W W') : CatAt wa xa c0 vl vr a b kw kl kr kc ks W' :=
 ⟨(k.block _ (heap_lt h.o)).trans h.o, (k.block _ (heap_lt h.l)).trans h.l, (k.block _ (heap_lt h.r)).trans h.r, (k.block _ (heap_lt h.c)).trans h.c, (k.block _ (heap_lt h.x)).trans h.x⟩
theorem behind_no {B : Nat} {π : Par} (r : Nat) (hr : r < 6) (dv : Value) (wa xa : Array Value) (hw0 : wa[0]? = some (.iface 133 dv)) (c0 vl vr : Value) (a b : Sp.Iv) (ha : Wv a) (hb : Wv b) (kw kl kr kc ks : Nat) (w : World) (hd : Does B π dv w) (hT : Turns w) (hG : 11 ≤ w.heap.size) (h : CatAt wa xa c0 vl vr a b kw kl kr kc ks w) (hm : vMay r a b = false) :
  Calls Tryz.prog 227 #[.int .i64 (r : Nat), .pointer (some ⟨kw, 0, none⟩), .pointer (some ⟨kl, 0, none⟩), .pointer (some ⟨kr, 0, none⟩), .pointer (some ⟨kc, 0, none⟩), .pointer (some ⟨ks, 0, none⟩)] w fun e w' => e = .returned (.agg (stC none)) ∧ Below w.heap.size w w' := by
 have kb := below_alloc1 w (.cells #[.bool false, .int .i16 0, .int .i16 0, .int .i16 0, .int .i16 0, .int .i16 0, .int .i16 0, .int .i16 0, .int .i16 0, .int .i16 0, .int .i16 0, .int .i16 0, .int .i16 0, .int .i16 0, .int .i16 0, .int .i16 0, .int .i16 0] 220)
 have h0 := h.call kb
 have HD := dMay (hd.below (kb.mono hd.size)) (hT.below kb hG) (Nat.le_trans hG kb.size) hr ha hb
 rw [hm] at HD
 have d0 := cell_of h0.o 0 hw0
 obtain ⟨x0, x1, _, _, _⟩ := res2 h0.l
 obtain ⟨y0, y1, _, _, _⟩ := res2 h0.r
 have HZ : Hid (_ = _) := heap_alloc_new w (.cells #[.bool false, .int .i16 0, .int .i16 0, .int .i16 0, .int .i16 0, .int .i16 0, .int .i16 0, .int .i16 0, .int .i16 0, .int .i16 0, .int .i16 0, .int .i16 0, .int .i16 0, .int .i16 0, .int .i16 0, .int .i16 0, .int .i16 0] 220)
 have HB : Hid (Below w.heap.size w _) := kb
 obtain ⟨na, hna⟩ : ∃ na, na = noneI := ⟨_, rfl⟩
 have n17 : na.size = 17 := by rw [hna]; rfl
 have HNA : Hid (na = noneI) := hna
 clear hna h0 h hd hT kb
 go_enter Tryz.func227, Tryz.ntmps227
 go_wp2_with fail
 refine HD.mono ?_
 rintro q w1 ⟨rfl, b1⟩
 have hz1 := (b1.block _ (heap_lt HZ.out)).trans HZ.out
 have HZ1 : Hid (_ = _) := hz1
 have hr0 : Hid (_ = _) := setCells_whole hz1 (d := na) (by rw [n17]; rfl)
 have HBf : Hid (Below w.heap.size w _) := setCells_below (b := w.heap.size) (Nat.le_refl _) na.toList 0 w _ (HB.out.trans (b1.mono HB.out.size))
 clear b1 hz1 HD d0 x0 x1 y0 y1
 go_wp2_with (first
  | (refine wp_stZ rfl _ _ rfl rfl rfl HNA.out HZ1.out rfl ?_))
 refine bodyPost_ret (results_st Tryz.results227 _ _ rfl hr0.out n17) rfl ⟨by rw [HNA.out]; rfl, HBf.out⟩
theorem behind_yes {B : Nat} {π : Par} (r : Nat) (hr : r < 6) (hm6 : Sp.mirror r < 6) (dv : Value) (wa : Array Value) (hw0 : wa[0]? = some (.iface 133 dv)) (hws : wa.size = 8) (c0 vl vr : Value) (tl tr : TypeId) (ul ur : Value) (hvl : vl = .iface tl ul) (hvr : vr = .iface tr ur) (x y : Sp.Sm) (hl : SideIs vl x) (hy : SideIs vr y) (a b : Sp.Iv) (ha : Wv a) (hb : Wv b) (e : Fin 8 → Sp.Iv) (he : ∀ k, Wv (e k)) (kw kl kr kc ks : Nat) (w : World) (hd : Does B π dv w) (hT : Turns w) (hG : 11 ≤ w.heap.size) (h : CatAt wa (stC (some e)) c0 vl vr a b kw kl kr kc ks w) (hm : vMay r a b = true) (s1 u : ST) (hs1 : Sp.bndV (Dm π) x r b (some e) = s1) (hu : Sp.bndV (Dm π) y (Sp.mirror r) a s1 = u) :
  Calls Tryz.prog 227 #[.int .i64 (r : Nat), .pointer (some ⟨kw, 0, none⟩), .pointer (some ⟨kl, 0, none⟩), .pointer (some ⟨kr, 0, none⟩), .pointer (some ⟨kc, 0, none⟩), .pointer (some ⟨ks, 0, none⟩)] w fun e w' => e = .returned (.agg (stC u)) ∧ Below w.heap.size w w' := by
 have kb := below_alloc1 w (.cells #[.bool false, .int .i16 0, .int .i16 0, .int .i16 0, .int .i16 0, .int .i16 0, .int .i16 0, .int .i16 0, .int .i16 0, .int .i16 0, .int .i16 0, .int .i16 0, .int .i16 0, .int .i16 0, .int .i16 0, .int .i16 0, .int .i16 0] 220)
 have h0 := h.call kb
 have HD := dMay (hd.below (kb.mono hd.size)) (hT.below kb hG) (Nat.le_trans hG kb.size) hr ha hb
 rw [hm] at HD
 have w1f : Sp.Wf (Kr π) s1 := by rw [← hs1]; exact Sp.bndV_wf (Sp.Wf.some he) hb
 have HB1 : Hid (∀ W, Below w.heap.size w W → Calls _ _ _ W _) := fun W hW => bound_calls (B := B) (π := π) vl x hl r hr dv wa hw0 b hb (some e) (Sp.Wf.some he) W (hd.below (hW.mono hd.size)) s1 hs1
 have HB2 : Hid (∀ W, Below w.heap.size w W → Calls _ _ _ W _) := fun W hW => bound_calls (B := B) (π := π) vr y hy (Sp.mirror r) hm6 dv wa hw0 a ha s1 w1f W (hd.below (hW.mono hd.size)) u hu
 have HM : Hid (∀ W, Below w.heap.size w W → Calls _ _ _ W _) := fun W hW => mirror_calls r hr W (hT.below hW hG)
 have lo := heap_lt h.o
 have ll := heap_lt h.l
 have lr := heap_lt h.r
 have lc := heap_lt h.c
 have lx := heap_lt h.x
 have d0 := cell_of h0.o 0 hw0
 obtain ⟨x0, x1, _, _, _⟩ := res2 h0.l
 obtain ⟨y0, y1, _, _, _⟩ := res2 h0.r
 subst hvl hvr
 have hx17 := stC_size (some e)
 have hu17 := stC_size u
 have hu1 := stC_one u
 generalize stC (some e) = xa at *
 generalize stC s1 = sa at *
 generalize stC u = ua at *
 have HZ : Hid (_ = _) := heap_alloc_new w (.cells #[.bool false, .int .i16 0, .int .i16 0, .int .i16 0, .int .i16 0, .int .i16 0, .int .i16 0, .int .i16 0, .int .i16 0, .int .i16 0, .int .i16 0, .int .i16 0, .int .i16 0, .int .i16 0, .int .i16 0, .int .i16 0, .int .i16 0] 220)
 have HB : Hid (Below w.heap.size w _) := kb
 have HC : Hid (CatAt wa xa c0 (.iface tl ul) (.iface tr ur) a b kw kl kr kc ks _) := h0
 clear h0 h hd hT kb
 go_enter Tryz.func227, Tryz.ntmps227
 go_wp2_with fail
 refine HD.mono ?_
 rintro q w1 ⟨rfl, b1⟩
 have HB3 : Hid (Below w.heap.size w w1.drew) := (HB.out.trans (b1.mono HB.out.size)).drew
 have H0 : Hid (CatAt wa xa c0 (.iface tl ul) (.iface tr ur) a b kw kl kr kc ks w1.drew ∧ w1.drew.heap[w.heap.size]? = some (.cells #[.bool false, .int .i16 0, .int .i16 0, .int .i16 0, .int .i16 0, .int .i16 0, .int .i16 0, .int .i16 0, .int .i16 0, .int .i16 0, .int .i16 0, .int .i16 0, .int .i16 0, .int .i16 0, .int .i16 0, .int .i16 0, .int .i16 0] 220) ∧ Below w.heap.size w w1.drew) := ⟨HC.out.call b1.drew, (b1.block _ (heap_lt HZ.out)).trans HZ.out, HB3.out⟩
 clear b1 HD d0 x0 x1 y0 y1
 go_wp2_with fail
 refine wp_region_held_drew (S := fun w' : World => CatAt wa xa c0 (.iface tl ul) (.iface tr ur) a b kw kl kr kc ks w' ∧ (∃ c, c.size = 17 ∧ w'.heap[w.heap.size]? = some (.cells c 220)) ∧ Below w.heap.size w w') (by kernel_rfl) ⟨H0.out.1, ⟨_, rfl, H0.out.2.1⟩, H0.out.2.2⟩ (fun hHeld => ?_)
 refine tky 0 rfl (yieldsIf_load_mid (by rfl) _ _ rfl _ _ rfl (wa).toList _ (fun w' h => range_of h.1.o) Tryz.underlying217 rfl (by rw [infoWk, Array.length_toList, hws])) hHeld ?_
 simp only [Act.put]
 refine tky 6 rfl (yieldsIf_load_mid (by rfl) _ _ rfl _ _ rfl (wa).toList _ (fun w' h => range_of h.1.o) Tryz.underlying217 rfl (by rw [infoWk, Array.length_toList, hws])) hHeld ?_
 simp only [Act.put]
 refine tky 11 rfl (yieldsIf_load_mid (by rfl) _ _ rfl _ _ rfl (xa).toList _ (fun w' h => range_of h.1.x) Tryz.underlying220 rfl (by rw [infoSt, Array.length_toList, hx17])) hHeld ?_
 simp only [Act.put]
 refine tk 1 (.pointer (some ⟨kc, 2, none⟩)) rfl (fun w' h => by go_simp) hHeld ?_
 simp only [Act.put]
 refine tk 2 (.iface tr ur) rfl (fun w' h => by have d := cell_of h.1.c 2 (v := .iface tr ur) rfl; go_simp) hHeld ?_
 simp only [Act.put]
 refine tk 3 (.int .i64 (r : Nat)) rfl (fun w' h => by go_simp) hHeld ?_
 simp only [Act.put]
 refine tk 5 (.agg #[.int .i16 a.a, .int .i16 a.b]) rfl (fun w' h => by (have d0 := cell_of h.1.l 0 (v := .int .i16 a.a) rfl); have d1 := cell_of h.1.l 1 (v := .int .i16 a.b) rfl; go_simp) hHeld ?_
 simp only [Act.put]
 refine tk 7 (.pointer (some ⟨kc, 1, none⟩)) rfl (fun w' h => by go_simp) hHeld ?_
 simp only [Act.put]
 refine tk 8 (.iface tl ul) rfl (fun w' h => by have d := cell_of h.1.c 1 (v := .iface tl ul) rfl; go_simp) hHeld ?_
 simp only [Act.put]
 refine tk 9 (.int .i64 (r : Nat)) rfl (fun w' h => by go_simp) hHeld ?_
 simp only [Act.put]
 refine tk 10 (.agg #[.int .i16 b.a, .int .i16 b.b]) rfl (fun w' h => by (have d0 := cell_of h.1.r 0 (v := .int .i16 b.a) rfl); have d1 := cell_of h.1.r 1 (v := .int .i16 b.b) rfl; go_simp) hHeld ?_
 simp only [Act.put]
 refine rd1 4 fun K hK => ?_
 simp only [gsb, gsa, Array.toArray_toList]
 go_simp
 refine (HM.out _ hHeld.2.2).mono ?_
 rintro q w2 ⟨rfl, rfl⟩
 go_wp2_with fail
 refine hK.out _ _ hHeld (fun hHeld => ?_)
 clear hK K
 refine rd1 12 fun K hK => ?_
 simp only [gsb]
 go_simp
 refine (HB1.out _ hHeld.2.2).mono ?_
 rintro q w3 ⟨rfl, b3⟩
 go_wp2_with fail
 obtain ⟨c3, hc3, hz3⟩ := hHeld.2.1
 have hs3 : CatAt wa xa c0 (.iface tl ul) (.iface tr ur) a b kw kl kr kc ks w3 ∧ (∃ c, c.size = 17 ∧ w3.heap[w.heap.size]? = some (.cells c 220)) ∧ Below w.heap.size w w3 := ⟨hHeld.1.call b3, ⟨c3, hc3, (b3.block _ (heap_lt hz3)).trans hz3⟩, hHeld.2.2.trans (b3.mono hHeld.2.2.size)⟩
 refine hK.out _ _ hs3 (fun hHeld => ?_)
 clear hK K hs3 b3 hz3
 refine rd1 13 fun K hK => ?_
 simp only [gsb]
 go_simp
 refine (HB2.out _ hHeld.2.2).mono ?_
 rintro q w4 ⟨rfl, b4⟩
 go_wp2_with fail
 obtain ⟨c4, hc4, hz4⟩ := hHeld.2.1
 have hz5 := (b4.block _ (heap_lt hz4)).trans hz4
 have hs4 : CatAt wa xa c0 (.iface tl ul) (.iface tr ur) a b kw kl kr kc ks w4 ∧ (∃ c, c.size = 17 ∧ w4.heap[w.heap.size]? = some (.cells c 220)) ∧ Below w.heap.size w w4 := ⟨hHeld.1.call b4, ⟨c4, hc4, hz5⟩, hHeld.2.2.trans (b4.mono hHeld.2.2.size)⟩
 refine hK.out _ _ hs4 (fun hHeld => ?_)
 clear hK K hs4 b4 hz4
 have hr0 : Hid (_ = _) := setCells_whole hz5 (d := ua) (by omega)
 have HBf : Hid (Below w.heap.size w _) := setCells_below (b := w.heap.size) (Nat.le_refl _) ua.toList 0 w _ hHeld.2.2
 refine rd1 14 fun K hK => ?_
 simp only [gsb]
 rw [if_pos (by rfl)]
 refine wr_st _ _ rfl rfl rfl (by rw [← hc4]; exact there_of hz5) hu17 hu1 ?_
 refine hK.out _ _ ⟨⟨(setCells_other _ _ _ _ (by omega)).trans hHeld.1.o, (setCells_other _ _ _ _ (by omega)).trans hHeld.1.l, (setCells_other _ _ _ _ (by omega)).trans hHeld.1.r, (setCells_other _ _ _ _ (by omega)).trans hHeld.1.c, (setCells_other _ _ _ _ (by omega)).trans hHeld.1.x⟩, ⟨ua, hu17, hr0.out⟩, HBf.out⟩ (fun _ => ?_)
 clear hK K
 refine wpAnyH_done (by kernel_rfl) ?_ _
 go_wp2_with fail
 refine bodyPost_ret (results_st Tryz.results227 _ _ rfl hr0.out hu17) rfl ⟨rfl, HBf.out⟩
theorem behind_calls {B : Nat} {π : Par} (r : Nat) (hr : r < 6) (dv : Value) (wa : Array Value) (hw0 : wa[0]? = some (.iface 133 dv)) (hws : wa.size = 8) (c0 : Value) (tl tr : TypeId) (ul ur : Value) (x y : Sp.Sm) (hl : SideIs (.iface tl ul) x) (hy : SideIs (.iface tr ur) y) (a b : Sp.Iv) (ha : Wv a) (hb : Wv b) (e : Fin 8 → Sp.Iv) (he : ∀ k, Wv (e k)) (kw kl kr kc ks : Nat) (w : World) (hd : Does B π dv w) (hT : Turns w) (hG : 11 ≤ w.heap.size) (h : CatAt wa (stC (some e)) c0 (.iface tl ul) (.iface tr ur) a b kw kl kr kc ks w) (u : ST) (hu : Sp.behindV (Dm π) r x y a b e = u) :
  Calls Tryz.prog 227 #[.int .i64 (r : Nat), .pointer (some ⟨kw, 0, none⟩), .pointer (some ⟨kl, 0, none⟩), .pointer (some ⟨kr, 0, none⟩), .pointer (some ⟨kc, 0, none⟩), .pointer (some ⟨ks, 0, none⟩)] w fun e w' => e = .returned (.agg (stC u)) ∧ Below w.heap.size w w' := by
 have hm6 : Sp.mirror r < 6 := by
  rcases (show r = 0 ∨ r = 1 ∨ r = 2 ∨ r = 3 ∨ r = 4 ∨ r = 5 from by omega) with rfl | rfl | rfl | rfl | rfl | rfl <;> decide
 cases hm : vMay r a b with
 | false =>
  have : u = none := by
   rw [← hu]
   exact Sp.behind_none (Dm π) r x y a b e hm
  subst this
  exact behind_no r hr dv wa _ hw0 c0 _ _ a b ha hb kw kl kr kc ks w hd hT hG h hm
 | true =>
  exact behind_yes r hr hm6 dv wa hw0 hws c0 _ _ tl tr ul ur rfl rfl x y hl hy a b ha hb e he kw kl kr kc ks w hd hT hG h hm _ u rfl ((Sp.behind_some (Dm π) r x y a b e hm).symm.trans hu)
end WI
end Go.Proofs.YtiopfihjmkfdmaaGreatDoor
