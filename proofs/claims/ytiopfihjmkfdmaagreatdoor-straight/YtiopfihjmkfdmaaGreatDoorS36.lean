import Derived.Test.YtiopfihjmkfdmaaGreatDoorS35
import Derived.Test.YtiopfihjmkfdmaaGreatDoorS25
import Derived.Test.YtiopfihjmkfdmaaGreatDoorS29
import Derived.Test.YtiopfihjmkfdmaaGreatDoorS23
import Derived.Test.YtiopfihjmkfdmaaGreatDoorS28
namespace Go.Proofs.YtiopfihjmkfdmaaGreatDoor
namespace WI
open Go.RowKit
set_option maxRecDepth 100000
set_option maxHeartbeats 4000000
abbrev StepA := Int × ((Fin 8 → Sp.Iv) → List TelT × ST)
def blkF : List StepA → ST → List TelT × ST
 | [], s => ([], s)
 | _ :: _, none => ([], none)
 | (p, G) :: xs, some e => (.point p e :: ((G e).1 ++ (blkF xs (G e).2).1), (blkF xs (G e).2).2)
theorem blkF_none : ∀ xs : List StepA, blkF xs none = ([], none)
 | [] => rfl
 | _ :: _ => rfl
structure BlkIn (C : Cx) (π : Par) (T : Tab) (F : Fd) (b : Bool) (w : World) (xs : List StepA) (s : ST) (wa xa : Array Value) (j : Nat) (sj : ST) (ej : List TelT) (W : World) : Prop where
 eq : blkF xs s = (ej ++ (blkF (xs.drop j) sj).1, (blkF (xs.drop j) sj).2)
 a : AnAt C π T (told π b F ej) W
 k : AKeep C w W
 o : W.heap[w.heap.size]? = some (.cells wa 217)
 x : W.heap[w.heap.size + 1]? = some (.cells xa 220)
 z : W.heap[w.heap.size + 1 + 1]? = some (.cells #[.bool false, .int .i16 0, .int .i16 0, .int .i16 0, .int .i16 0, .int .i16 0, .int .i16 0, .int .i16 0, .int .i16 0, .int .i16 0, .int .i16 0, .int .i16 0, .int .i16 0, .int .i16 0, .int .i16 0, .int .i16 0, .int .i16 0] 220)
 wf : Sp.Wf (Kr π) sj
 rng : Rng b (told π b F ej) (blkF (xs.drop j) sj).1
 h : xa = stC sj
theorem block_calls (C : Cx) (π : Par) (T : Tab) (F : Fd) (b : Bool) (w : World) (g cap : Nat) (xs : List StepA) (vs : List Value) (hlen : vs.length = xs.length) (hg : g < C.base) (hmx : (xs.length : Int) ≤ 9223372036854775807) (s : ST) (hs : Sp.Wf (Kr π) s) (h : AnAt C π T F w) (hr : Rng b F (blkF xs s).1)
  (hcell : ∀ (i : Nat) (u : Value), vs[i]? = some u → w.cell? ⟨g, i, none⟩ = some u)
  (he : ∀ (i : Nat) (u : Value) (p : Int) (G : (Fin 8 → Sp.Iv) → List TelT × ST), vs[i]? = some u → xs[i]? = some (p, G) → ∃ t y, u = .iface t y ∧ WhereAt t y p ∧ (∀ e, (∀ k, Wv (e k)) → Sp.Wf (Kr π) (G e).2) ∧
   ∀ F' W e, AKeep C w W → AnAt C π T F' W → (∀ k, Wv (e k)) → Rng b F' (G e).1 → Calls Tryz.prog 115 #[.agg (wk C b), u, .agg (stC (some e))] W (Post C π T F' b W (G e).1 (G e).2)) :
  Calls Tryz.prog 82 #[.agg (wk C b), .slice (some ⟨g, 0, none⟩) xs.length cap, .agg (stC s)] w (Post C π T F b w (blkF xs s).1 (blkF xs s).2) := by
 have hws := wk_size C b
 have HPt : Hid (∀ F' W p e, AnAt C π T F' W → (∀ k, Wv (e k)) → Rng b F' [.point p e] → Calls _ _ _ W _) := fun F' W p e hW hwv hrg => point_calls C π T F' b W hW p e hwv hrg
 have HE : Hid (_) := he
 generalize hwa : wk C b = wa at *
 have HWA : Hid (wk C b = wa) := hwa
 obtain ⟨xa, hxa⟩ : ∃ xa, xa = stC s := ⟨_, rfl⟩
 rw [← hxa]
 have H0 : Hid (BlkIn C π T F b w xs s wa xa 0 s [] (((w.alloc (.cells wa 217)).alloc (.cells xa 220)).alloc (.cells #[.bool false, .int .i16 0, .int .i16 0, .int .i16 0, .int .i16 0, .int .i16 0, .int .i16 0, .int .i16 0, .int .i16 0, .int .i16 0, .int .i16 0, .int .i16 0, .int .i16 0, .int .i16 0, .int .i16 0, .int .i16 0, .int .i16 0] 220))) := by
  obtain ⟨k0, k1, k2, kb⟩ := laid3b (w := w) (o1 := .cells wa 217) (o2 := .cells xa 220) (o3 := .cells #[.bool false, .int .i16 0, .int .i16 0, .int .i16 0, .int .i16 0, .int .i16 0, .int .i16 0, .int .i16 0, .int .i16 0, .int .i16 0, .int .i16 0, .int .i16 0, .int .i16 0, .int .i16 0, .int .i16 0, .int .i16 0, .int .i16 0] 220) (Below.refl _ _)
  exact ⟨rfl, by rw [told_nil]; exact h.call kb, AKeep.of_below kb h.le, k0, k1, k2, hs, by rw [told_nil]; exact hr, hxa⟩
 have HA : Hid (AnAt C π T F w) := h
 have HCell : Hid (_) := hcell
 have l1 : w.heap.size ≤ w.heap.size + 1 := by omega
 have l2 : w.heap.size ≤ w.heap.size + 1 + 1 := by omega
 clear h he hcell hwa hxa hr hs
 go_enter Tryz.func82, Tryz.ntmps82
 go_wp2_with fail
 generalize ((w.alloc (.cells wa 217)).alloc (.cells xa 220)).alloc (.cells #[.bool false, .int .i16 0, .int .i16 0, .int .i16 0, .int .i16 0, .int .i16 0, .int .i16 0, .int .i16 0, .int .i16 0, .int .i16 0, .int .i16 0, .int .i16 0, .int .i16 0, .int .i16 0, .int .i16 0, .int .i16 0, .int .i16 0] 220) = W0 at *
 go_loopw [8, 11] (fun _ i wr => ∃ (j : Nat) (sj : ST) (ej : List TelT) (xj : Array Value), j ≤ xs.length ∧ i = .int .i64 j ∧ Hid (BlkIn C π T F b w xs s wa xj j sj ej wr)) (fun _ i _ => xs.length - (intOf i).toNat)
 case atStart => exact ⟨0, s, [], xa, Nat.zero_le _, rfl, H0.out⟩
 case round =>
  obtain ⟨j, sj, ej, xj, hj, rfl, hq⟩ := hrel
  clear H0
  have x17 : xj.size = 17 := by rw [hq.out.h]; exact stC_size sj
  have x1 : xj.all (·.oneCell') = true := by rw [hq.out.h]; exact stC_one sj
  have HX : Hid (_ = _) := hq.out.x
  have HZ : Hid (_ = _) := hq.out.z
  have HO : Hid (_ = _) := hq.out.o
  by_cases hjlt : j < xs.length
  ·obtain ⟨v, hv⟩ : ∃ v, vs[j]? = some v := ⟨_, List.getElem?_eq_getElem (by omega)⟩
   obtain ⟨pg, hx⟩ : ∃ x, xs[j]? = some x := ⟨_, List.getElem?_eq_getElem hjlt⟩
   obtain ⟨p, G⟩ := pg
   obtain ⟨t, y, rfl, hwh, hwG, hst⟩ := HE.out j v p G hv hx
   have hcu : wr.cell? ⟨g, j, none⟩ = some (.iface t y) := by
    rw [hq.out.k.below.cell (p := ⟨g, j, none⟩) hg]; exact HCell.out j _ hv
   have hdrop : xs.drop j = (p, G) :: xs.drop (j + 1) := by
    rw [List.drop_eq_getElem_cons hjlt, (List.getElem?_eq_some_iff.1 hx).2]
   have hjl : ((j : Nat) : Int) < ((xs.length : Nat) : Int) := by omega
   cases sj with
   | none =>
    have E : Hid (blkF xs s = (ej, none)) := by
     have := hq.out.eq
     rw [blkF_none] at this
     unfold Hid
     rw [this]
     show (ej ++ [], none) = (ej, none)
     rw [List.append_nil]
    have hr0 : Hid (_ = _) := setCells_whole hq.out.z (d := xj) (by rw [x17]; rfl)
    have HBf : Hid (Below w.heap.size wr _) := setCells_below (b := w.heap.size + 1 + 1) l2 xj.toList 0 wr _ (Below.refl _ _)
    have d0 : xj[0]? = some (.bool false) := by rw [hq.out.h]; rfl
    have c0 := cell_of HX.out 0 d0
    clear hst hwh hwG hdrop
    go_wp2_with (first
     | (refine wp_ld rfl _ rfl rfl HX.out x17 ?_)
     | (refine wp_st rfl _ _ rfl rfl rfl HZ.out rfl x17 x1 ?_))
    refine bodyPost_ret (results_st Tryz.results82 _ _ rfl hr0.out x17) rfl ?_
    rw [E.out]
    exact ⟨by rw [hq.out.h], HA.out.upon hq.out.a HBf.out, AKeep.upon HA.out hq.out.k HBf.out⟩
   | some e =>
    have hwe := hq.out.wf e rfl
    have hrg := hq.out.rng
    rw [hdrop] at hrg
    have hrg1 : Rng b (told π b F ej) [.point p e] := Rng.left (es' := (G e).1 ++ (blkF (xs.drop (j + 1)) (G e).2).1) hrg
    have hrg2 : Rng b (told π b (told π b F ej) [.point p e]) ((G e).1 ++ (blkF (xs.drop (j + 1)) (G e).2).1) := Rng.right (es := [.point p e]) hrg
    have d0 : xj[0]? = some (.bool true) := by rw [hq.out.h]; rfl
    have c0 := cell_of HX.out 0 d0
    have HG : Hid (_) := hst
    have hP := HPt.out (told π b F ej) wr.drew p e (HA.out.upon hq.out.a (Below.refl _ _).drew) hwe hrg1
    rw [← hq.out.h] at hP
    have H1 : Hid (wr.drew.heap[w.heap.size]? = some (.cells wa 217) ∧ wr.drew.heap[w.heap.size + 1]? = some (.cells xj 220) ∧ wr.drew.heap[w.heap.size + 1 + 1]? = some (.cells #[.bool false, .int .i16 0, .int .i16 0, .int .i16 0, .int .i16 0, .int .i16 0, .int .i16 0, .int .i16 0, .int .i16 0, .int .i16 0, .int .i16 0, .int .i16 0, .int .i16 0, .int .i16 0, .int .i16 0, .int .i16 0, .int .i16 0] 220)) := ⟨HO.out, HX.out, HZ.out⟩
    have HP : Hid (Calls _ _ _ wr.drew _) := hP
    clear hst hP
    have hwm : ∀ w, (method 587 t y "Where").run Tryz.prog w = .ok (72, .int .i64 p) w := hwh
    have e17 := stC_size (G e).2
    have e1o := stC_one (G e).2
    go_wp2_with fail
    refine wp_region_held_drew (S := fun w' : World => w'.heap[w.heap.size]? = some (.cells wa 217) ∧ w'.heap[w.heap.size + 1]? = some (.cells xj 220) ∧ w'.heap[w.heap.size + 1 + 1]? = some (.cells #[.bool false, .int .i16 0, .int .i16 0, .int .i16 0, .int .i16 0, .int .i16 0, .int .i16 0, .int .i16 0, .int .i16 0, .int .i16 0, .int .i16 0, .int .i16 0, .int .i16 0, .int .i16 0, .int .i16 0, .int .i16 0, .int .i16 0] 220)) (by kernel_rfl) H1.out (fun hHeld => ?_)
    refine tky 0 rfl (yieldsIf_load_mid (by rfl) _ _ rfl _ _ rfl (wa).toList _ (fun w' h => range_of h.1) Tryz.underlying217 rfl (by rw [infoWk, Array.length_toList, hws])) hHeld ?_
    simp only [Act.put]
    refine tky 3 rfl (yieldsIf_load_mid (by rfl) _ _ rfl _ _ rfl (xj).toList _ (fun w' h => range_of h.2.1) Tryz.underlying220 rfl (by rw [infoSt, Array.length_toList, x17])) hHeld ?_
    simp only [Act.put]
    refine tk 1 (.iface t y) rfl (fun w' h => by go_simp) hHeld ?_
    simp only [Act.put]
    refine rd1 2 fun K hK => ?_
    simp only [gsb, gsa, Array.toArray_toList]
    go_simp
    refine (anwhere_calls p _).mono ?_
    rintro r w1 ⟨rfl, rfl⟩
    go_wp2_with fail
    refine hK.out _ _ hHeld (fun hHeld => ?_)
    clear hK K
    refine rd1 4 fun K hK => ?_
    simp only [gsb]
    go_simp
    refine HP.out.mono ?_
    rintro r w1 ⟨rfl, a1, b1⟩
    have HA1 : Hid (AnAt C π T (told π b (told π b F ej) [.point p e]) w1) := a1
    have HK1 : Hid (AKeep C w w1) := (AKeep.upon HA.out hq.out.k (Below.refl _ _).drew).trans b1
    have k0 := b1.mine HA.out (Nat.le_refl _) hHeld.1
    have k1 := b1.mine HA.out l1 hHeld.2.1
    have k2 := b1.mine HA.out l2 hHeld.2.2
    have K0 : Hid (_ = _) := k0
    have K1 : Hid (_ = _) := k1
    have K2 : Hid (_ = _) := k2
    have hG := HG.out _ w1 e HK1.out HA1.out hwe hrg2.left
    rw [← hq.out.h] at hG
    have HGG : Hid (Calls _ _ _ w1 _) := hG
    have hrg3 := hrg2.right (π := π)
    have HEQ : Hid (_ = _) := hq.out.eq
    have HWG : Hid (Sp.Wf _ _) := hwG e hwe
    clear hG a1 HG HP HX HZ HO hHeld
    go_wp2_with fail
    refine hK.out _ _ ⟨k0, k1, k2⟩ (fun _ => ?_)
    clear hK K k0 k1 k2 b1
    refine wpAnyH_done (by kernel_rfl) ?_ _
    go_wp2_with (first
     | (refine wp_ldW rfl _ rfl rfl K0.out hws ?_)
     | (refine wp_ld rfl _ rfl rfl K1.out x17 ?_))
    refine HGG.out.mono ?_
    unfold Post
    generalize hue : stC (G e).2 = ue at *
    rintro r w2 ⟨rfl, a2, b2⟩
    have y0 := b2.mine HA.out (Nat.le_refl _) K0.out
    have y1 := b2.mine HA.out l1 K1.out
    have y2 := b2.mine HA.out l2 K2.out
    have Y1 : Hid (_ = _) := y1
    have HB3 : Hid (Below w.heap.size w2 _) := setCells_below (b := w.heap.size + 1) l1 ue.toList 0 w2 _ (Below.refl _ _)
    have HQ : Hid (BlkIn C π T F b w xs s wa ue (j + 1) (G e).2 (ej ++ [.point p e] ++ (G e).1) (w2.setCells (w.heap.size + 1) 0 ue.toList)) := by
     refine ⟨?_, ?_, AKeep.upon HA.out (HK1.out.trans b2) HB3.out, (setCells_other _ _ _ _ (by omega)).trans y0, setCells_whole y1 (by rw [e17, x17]), (setCells_other _ _ _ _ (by omega)).trans y2, HWG.out, ?_, hue.symm⟩
     ·rw [HEQ.out, hdrop]
      simp only [blkF, List.append_assoc, List.cons_append, List.nil_append]
     ·rw [told_append, told_append]
      exact HA.out.upon a2 HB3.out
     ·rw [told_append, told_append]
      exact hrg3
    clear y0 y1 y2 a2 b2 HGG hrg3 HEQ
    go_wp2_with (first
     | (refine wp_st rfl _ _ rfl rfl rfl Y1.out x17 e17 e1o ?_))
    exact ⟨⟨j + 1, (G e).2, _, ue, by omega, by go_num, HQ⟩, by simp [intOf]; omega⟩
  ·have E : Hid (blkF xs s = (ej, sj)) := by
    have := hq.out.eq
    rw [List.drop_of_length_le (by omega)] at this
    unfold Hid
    rw [this]
    show (ej ++ [], sj) = (ej, sj)
    rw [List.append_nil]
   have hr0 : Hid (_ = _) := setCells_whole hq.out.z (d := xj) (by rw [x17]; rfl)
   have HBf : Hid (Below w.heap.size wr _) := setCells_below (b := w.heap.size + 1 + 1) l2 xj.toList 0 wr _ (Below.refl _ _)
   go_wp2_with (first
    | (refine wp_ld rfl _ rfl rfl HX.out x17 ?_)
    | (refine wp_st rfl _ _ rfl rfl rfl HZ.out rfl x17 x1 ?_))
   refine bodyPost_ret (results_st Tryz.results82 _ _ rfl hr0.out x17) rfl ?_
   rw [E.out]
   exact ⟨by rw [hq.out.h], HA.out.upon hq.out.a HBf.out, AKeep.upon HA.out hq.out.k HBf.out⟩
end WI
end Go.Proofs.YtiopfihjmkfdmaaGreatDoor
namespace Go.Proofs.YtiopfihjmkfdmaaGreatDoor
namespace WI
open Go.RowKit
set_option maxRecDepth 100000
set_option maxHeartbeats 4000000
structure CauAt (wq ic wa sa : Array Value) (kq ko kw ks : Nat) (W : World) : Prop where
 q : W.heap[kq]? = some (.cells wq 217)
 c : W.heap[ko]? = some (.cells ic 293)
 o : W.heap[kw]? = some (.cells wa 217)
 s : W.heap[ks]? = some (.cells sa 220)
theorem CauAt.call {wq ic wa sa : Array Value} {kq ko kw ks : Nat} {W W' : World} (h : CauAt wq ic wa sa kq ko kw ks W) (b : Below W.heap.size W W') : CauAt wq ic wa sa kq ko kw ks W' :=
 ⟨(b.block _ (heap_lt h.q)).trans h.q, (b.block _ (heap_lt h.c)).trans h.c, (b.block _ (heap_lt h.o)).trans h.o, (b.block _ (heap_lt h.s)).trans h.s⟩
structure CauIn (n kq ko kw ks : Nat) : Prop where
 q : n ≤ kq
 c : n ≤ ko
 o : n ≤ kw
 s : n ≤ ks
theorem CauAt.keep {wq ic wa sa : Array Value} {kq ko kw ks : Nat} {C : Cx} {π : Par} {T : Tab} {F : Fd} {w0 W W' : World} (h : CauAt wq ic wa sa kq ko kw ks W) (h0 : AnAt C π T F w0) (hn : CauIn w0.heap.size kq ko kw ks) (b : AKeep C W W') : CauAt wq ic wa sa kq ko kw ks W' :=
 ⟨b.mine h0 hn.q h.q, b.mine h0 hn.c h.c, b.mine h0 hn.o h.o, b.mine h0 hn.s h.s⟩
theorem CauAt.put {wq ic wa sa : Array Value} {kq ko kw ks : Nat} {W : World} (h : CauAt wq ic wa sa kq ko kw ks W) {p : Nat} (hp : kq < p ∧ ko < p ∧ kw < p ∧ ks < p) (l : List Value) : CauAt wq ic wa sa kq ko kw ks (W.setCells p 0 l) :=
 ⟨(setCells_other _ _ _ _ (by omega)).trans h.q, (setCells_other _ _ _ _ (by omega)).trans h.c, (setCells_other _ _ _ _ (by omega)).trans h.o, (setCells_other _ _ _ _ (by omega)).trans h.s⟩
abbrev whA (p : Int) (k : Nat) (tl : TypeId) (ul : Value) (tr : TypeId) (ur : Value) (av : Option Addr) (nv cv : Nat) : Array Value := #[.int .i64 p, .int .i64 (k : Nat), .iface tl ul, .iface tr ur, .slice av nv cv]
theorem next_calls (p : Int) (k : Nat) (tl : TypeId) (ul : Value) (tr : TypeId) (ur : Value) (av : Option Addr) (nv cv : Nat) (C : Cx) (π : Par) (T : Tab) (F F0 : Fd) (b : Bool) (w0 w : World) (kq ko kw ks : Nat) (s i : ST) (h0 : AnAt C π T F0 w0) (hn : CauIn w0.heap.size kq ko kw ks) (h : AnAt C π T F w) (hc : CauAt (wk C false) (whA p k tl ul tr ur av nv cv) (wk C b) (stC s) kq ko kw ks w) (es1 es2 : List TelT) (s1 s2 v u : ST)
  (hs : CondsAt C π T F false k (.iface tl ul) (.iface tr ur) i es1 s1 s2) (h1 : BlkAt C π T F false w (.slice av nv cv) s1 es2 v) (wsf : Sp.Wf (Kr π) s) (wvf : Sp.Wf (Kr π) v) (hu : Sp.jn (Dm π) s v = u) :
  Calls Tryz.prog 245 #[.agg (stC i), .pointer (some ⟨kq, 0, none⟩), .pointer (some ⟨ko, 0, none⟩), .pointer (some ⟨kw, 0, none⟩), .pointer (some ⟨ks, 0, none⟩)] w fun e w' => e = .returned (.agg (stC u)) ∧ AnAt C π T F w' ∧ AKeep C w w' := by
 obtain ⟨k0, k1, kb⟩ := laid2b (w := w) (o1 := .cells (stC i) 220) (o2 := .cells #[.bool false, .int .i16 0, .int .i16 0, .int .i16 0, .int .i16 0, .int .i16 0, .int .i16 0, .int .i16 0, .int .i16 0, .int .i16 0, .int .i16 0, .int .i16 0, .int .i16 0, .int .i16 0, .int .i16 0, .int .i16 0, .int .i16 0] 220) (Below.refl _ _)
 have HW := hs _ (h.call kb)
 have hws := wk_size C b
 have hwq := wk_size C false
 have hx17 := stC_size i
 have a17 := stC_size s1
 have a1o := stC_one s1
 have b17 := stC_size s2
 have b1o := stC_one s2
 have s17 := stC_size s
 have u17 := stC_size u
 have u1o := stC_one u
 have H1 : Hid (∀ W, AKeep C w W → AnAt C π T F W → Calls _ _ _ W _) := h1
 have HJ : Hid (∀ W, Does C.base π C.dv W → Calls Tryz.prog 116 #[.agg (wk C b), .agg (stC s), .agg (stC v)] W fun e w' => e = .returned (.agg (stC u)) ∧ Below W.heap.size W w') := fun W hd => jn_calls (B := C.base) (π := π) C.dv C.dom C.delay C.narrow C.unroll C.th C.m _ s v u W hd hu wsf wvf
 have hc4 := hc.call kb
 unfold CondPost at HW
 unfold Post at H1
 generalize wk C false = wq at *
 generalize wk C b = wa at *
 generalize stC i = xa at *
 generalize stC s = sa at *
 generalize stC s1 = q1 at *
 generalize stC s2 = q2 at *
 generalize stC v = r1 at *
 generalize stC u = uu at *
 have K0 : Hid (_ = _) := k0
 have K1 : Hid (_ = _) := k1
 have HQ : Hid (_ = _) := hc4.q
 have c1 := cell_of hc4.c 1 (v := .int .i64 (k : Nat)) rfl
 have c2 := cell_of hc4.c 2 (v := .iface tl ul) rfl
 have c3 := cell_of hc4.c 3 (v := .iface tr ur) rfl
 have HC4 : Hid (CauAt wq (whA p k tl ul tr ur av nv cv) wa sa kq ko kw ks _) := hc4
 have HB : Hid (Below w.heap.size w _) := kb
 have HA : Hid (AnAt C π T F w) := h
 have H00 : Hid (AnAt C π T F0 w0) := h0
 have HN : Hid (CauIn w0.heap.size kq ko kw ks) := hn
 have hlt : kq < w.heap.size ∧ ko < w.heap.size ∧ kw < w.heap.size ∧ ks < w.heap.size := ⟨heap_lt hc.q, heap_lt hc.c, heap_lt hc.o, heap_lt hc.s⟩
 have HLT : Hid (_ ∧ _ ∧ _ ∧ _) := hlt
 clear h hs k0 k1 kb h1 hu wsf wvf hc hc4 h0 hn hlt
 go_enter Tryz.func245, Tryz.ntmps245
 go_wp2_with (first
  | (refine wp_ldW rfl _ rfl rfl HQ.out hwq ?_)
  | (refine wp_ld rfl _ rfl rfl K0.out hx17 ?_))
 refine HW.mono ?_
 rintro r w1 ⟨rfl, a1, b1⟩
 have hsz : w.heap.size ≤ w1.heap.size := Nat.le_trans HB.out.size b1.below.size
 have hk1 : w.heap.size + 1 < w1.heap.size := Nat.lt_of_lt_of_le (heap_lt K1.out) b1.below.size
 obtain ⟨t1, t2, t3, t4, tb⟩ := two_new w1 q1 q2 a17 b17
 have HT1 : Hid (_ = _) := t1
 have HT2 : Hid (_ = _) := t2
 have hz4 := (tb.block _ (heap_lt (b1.mine HA.out (by omega) K1.out))).trans (b1.mine HA.out (by omega) K1.out)
 have H0 : Hid ((CauAt wq (whA p k tl ul tr ur av nv cv) wa sa kq ko kw ks ((((w1.alloc (.cells #[.bool false, .int .i16 0, .int .i16 0, .int .i16 0, .int .i16 0, .int .i16 0, .int .i16 0, .int .i16 0, .int .i16 0, .int .i16 0, .int .i16 0, .int .i16 0, .int .i16 0, .int .i16 0, .int .i16 0, .int .i16 0, .int .i16 0] 220)).alloc (.cells #[.bool false, .int .i16 0, .int .i16 0, .int .i16 0, .int .i16 0, .int .i16 0, .int .i16 0, .int .i16 0, .int .i16 0, .int .i16 0, .int .i16 0, .int .i16 0, .int .i16 0, .int .i16 0, .int .i16 0, .int .i16 0, .int .i16 0] 220)).setCells w1.heap.size 0 q1.toList).setCells (w1.heap.size + 1) 0 q2.toList).drew ∧ ((((w1.alloc (.cells #[.bool false, .int .i16 0, .int .i16 0, .int .i16 0, .int .i16 0, .int .i16 0, .int .i16 0, .int .i16 0, .int .i16 0, .int .i16 0, .int .i16 0, .int .i16 0, .int .i16 0, .int .i16 0, .int .i16 0, .int .i16 0, .int .i16 0] 220)).alloc (.cells #[.bool false, .int .i16 0, .int .i16 0, .int .i16 0, .int .i16 0, .int .i16 0, .int .i16 0, .int .i16 0, .int .i16 0, .int .i16 0, .int .i16 0, .int .i16 0, .int .i16 0, .int .i16 0, .int .i16 0, .int .i16 0, .int .i16 0] 220)).setCells w1.heap.size 0 q1.toList).setCells (w1.heap.size + 1) 0 q2.toList).drew.heap[w1.heap.size]? = some (.cells q1 220)) ∧ ∃ d : Array Value, d.size = 17 ∧ ((((w1.alloc (.cells #[.bool false, .int .i16 0, .int .i16 0, .int .i16 0, .int .i16 0, .int .i16 0, .int .i16 0, .int .i16 0, .int .i16 0, .int .i16 0, .int .i16 0, .int .i16 0, .int .i16 0, .int .i16 0, .int .i16 0, .int .i16 0, .int .i16 0] 220)).alloc (.cells #[.bool false, .int .i16 0, .int .i16 0, .int .i16 0, .int .i16 0, .int .i16 0, .int .i16 0, .int .i16 0, .int .i16 0, .int .i16 0, .int .i16 0, .int .i16 0, .int .i16 0, .int .i16 0, .int .i16 0, .int .i16 0, .int .i16 0] 220)).setCells w1.heap.size 0 q1.toList).setCells (w1.heap.size + 1) 0 q2.toList).drew.heap[w.heap.size + 1]? = some (.cells d 220)) :=
  ⟨⟨(HC4.out.keep H00.out HN.out b1).call tb.drew, t3⟩, ⟨_, rfl, hz4⟩⟩
 have HA4 : Hid (AnAt C π T F ((((w1.alloc (.cells #[.bool false, .int .i16 0, .int .i16 0, .int .i16 0, .int .i16 0, .int .i16 0, .int .i16 0, .int .i16 0, .int .i16 0, .int .i16 0, .int .i16 0, .int .i16 0, .int .i16 0, .int .i16 0, .int .i16 0, .int .i16 0, .int .i16 0] 220)).alloc (.cells #[.bool false, .int .i16 0, .int .i16 0, .int .i16 0, .int .i16 0, .int .i16 0, .int .i16 0, .int .i16 0, .int .i16 0, .int .i16 0, .int .i16 0, .int .i16 0, .int .i16 0, .int .i16 0, .int .i16 0, .int .i16 0, .int .i16 0] 220)).setCells w1.heap.size 0 q1.toList).setCells (w1.heap.size + 1) 0 q2.toList).drew) := HA.out.upon a1 (tb.mono hsz).drew
 have HK4 : Hid (AKeep C w ((((w1.alloc (.cells #[.bool false, .int .i16 0, .int .i16 0, .int .i16 0, .int .i16 0, .int .i16 0, .int .i16 0, .int .i16 0, .int .i16 0, .int .i16 0, .int .i16 0, .int .i16 0, .int .i16 0, .int .i16 0, .int .i16 0, .int .i16 0, .int .i16 0] 220)).alloc (.cells #[.bool false, .int .i16 0, .int .i16 0, .int .i16 0, .int .i16 0, .int .i16 0, .int .i16 0, .int .i16 0, .int .i16 0, .int .i16 0, .int .i16 0, .int .i16 0, .int .i16 0, .int .i16 0, .int .i16 0, .int .i16 0, .int .i16 0] 220)).setCells w1.heap.size 0 q1.toList).setCells (w1.heap.size + 1) 0 q2.toList).drew) := AKeep.upon HA.out ((AKeep.of_below HB.out HA.out.le).trans b1) (tb.mono hsz).drew
 clear t1 t2 t3 t4 tb a1 b1 HW hz4 HC4 c1 c2 c3
 go_wp2_with (first
  | (refine wp_st rfl _ _ rfl rfl (c := #[.bool false, .int .i16 0, .int .i16 0, .int .i16 0, .int .i16 0, .int .i16 0, .int .i16 0, .int .i16 0, .int .i16 0, .int .i16 0, .int .i16 0, .int .i16 0, .int .i16 0, .int .i16 0, .int .i16 0, .int .i16 0, .int .i16 0]) (d := q1) rfl (by exact HT1.out) rfl a17 a1o ?_)
  | (refine wp_st rfl _ _ rfl rfl (c := #[.bool false, .int .i16 0, .int .i16 0, .int .i16 0, .int .i16 0, .int .i16 0, .int .i16 0, .int .i16 0, .int .i16 0, .int .i16 0, .int .i16 0, .int .i16 0, .int .i16 0, .int .i16 0, .int .i16 0, .int .i16 0, .int .i16 0]) (d := q2) rfl (by exact HT2.out) rfl b17 b1o ?_))
 generalize ((((w1.alloc (.cells #[.bool false, .int .i16 0, .int .i16 0, .int .i16 0, .int .i16 0, .int .i16 0, .int .i16 0, .int .i16 0, .int .i16 0, .int .i16 0, .int .i16 0, .int .i16 0, .int .i16 0, .int .i16 0, .int .i16 0, .int .i16 0, .int .i16 0] 220)).alloc (.cells #[.bool false, .int .i16 0, .int .i16 0, .int .i16 0, .int .i16 0, .int .i16 0, .int .i16 0, .int .i16 0, .int .i16 0, .int .i16 0, .int .i16 0, .int .i16 0, .int .i16 0, .int .i16 0, .int .i16 0, .int .i16 0, .int .i16 0] 220)).setCells w1.heap.size 0 q1.toList).setCells (w1.heap.size + 1) 0 q2.toList) = w4 at *
 refine wp_region_held_drew (S := fun w' : World => (CauAt wq (whA p k tl ul tr ur av nv cv) wa sa kq ko kw ks w' ∧ w'.heap[w1.heap.size]? = some (.cells q1 220)) ∧ ∃ d : Array Value, d.size = 17 ∧ w'.heap[w.heap.size + 1]? = some (.cells d 220)) (by kernel_rfl) H0.out (fun hHeld => ?_)
 refine tky 0 rfl (yieldsIf_load_mid (by rfl) _ _ rfl _ _ rfl (wa).toList _ (fun w' h => range_of h.1.1.o) Tryz.underlying217 rfl (by rw [infoWk, Array.length_toList, hws])) hHeld ?_
 simp only [Act.put]
 refine tky 2 rfl (yieldsIf_load_mid (by rfl) _ _ rfl _ _ rfl (wq).toList _ (fun w' h => range_of h.1.1.q) Tryz.underlying217 rfl (by rw [infoWk, Array.length_toList, hwq])) hHeld ?_
 simp only [Act.put]
 refine tky 1 rfl (yieldsIf_load_mid (by rfl) _ _ rfl _ _ rfl (sa).toList _ (fun w' h => range_of h.1.1.s) Tryz.underlying220 rfl (by rw [infoSt, Array.length_toList, s17])) hHeld ?_
 simp only [Act.put]
 refine tky 5 rfl (yieldsIf_load_mid (by rfl) _ _ rfl _ _ rfl (q1).toList _ (fun w' h => range_of h.1.2) Tryz.underlying220 rfl (by rw [infoSt, Array.length_toList, a17])) hHeld ?_
 simp only [Act.put]
 refine tk 3 (.pointer (some ⟨ko, 4, none⟩)) rfl (fun w' h => by go_simp) hHeld ?_
 simp only [Act.put]
 refine tk 4 (.slice av nv cv) rfl (fun w' h => by have d := cell_of h.1.1.c 4 (v := .slice av nv cv) rfl; go_simp) hHeld ?_
 simp only [Act.put]
 refine rd1 6 fun K hK => ?_
 simp only [gsb, gsa, Array.toArray_toList]
 go_simp
 refine (H1.out _ HK4.out HA4.out).mono ?_
 rintro r w5 ⟨rfl, a5, b5⟩
 go_wp2_with fail
 have HA5 : Hid (AnAt C π T F w5) := a5
 have HK5 : Hid (AKeep C w w5) := HK4.out.trans b5
 obtain ⟨d5, hd5, hz5⟩ := hHeld.2
 have hs5 := hHeld.1.1.keep H00.out HN.out b5
 have hq5 := b5.mine HA.out hsz hHeld.1.2
 have hz5 := b5.mine HA.out (by omega) hz5
 refine hK.out _ _ ⟨⟨hs5, hq5⟩, d5, hd5, hz5⟩ (fun hHeld => ?_)
 clear hK K hs5 a5 b5 hq5 hz5
 refine rd1 7 fun K hK => ?_
 simp only [gsb]
 go_simp
 refine (HJ.out _ HA5.out.does).mono ?_
 rintro r w7 ⟨rfl, b7⟩
 go_wp2_with fail
 have HA7 : Hid (AnAt C π T F w7) := HA5.out.call b7
 have HK7 : Hid (AKeep C w w7) := HK5.out.more b7 HA.out.le
 obtain ⟨d7, hd7, hz7⟩ := hHeld.2
 have hs7 := hHeld.1.1.call b7
 have hq7 := (b7.block _ (heap_lt hHeld.1.2)).trans hHeld.1.2
 have hz7 := (b7.block _ (heap_lt hz7)).trans hz7
 refine hK.out _ _ ⟨⟨hs7, hq7⟩, d7, hd7, hz7⟩ (fun _ => ?_)
 clear hK K b7
 have hr0 : Hid (_ = _) := setCells_whole hz7 (d := uu) (by omega)
 have HBf : Hid (Below w.heap.size w7 _) := setCells_below (b := w.heap.size + 1) (by omega) uu.toList 0 w7 _ (Below.refl _ _)
 have hlt := HLT.out
 refine rd1 8 fun K hK => ?_
 simp only [gsb]
 rw [if_pos (by rfl)]
 refine wr_st _ _ rfl rfl rfl (by rw [← hd7]; exact there_of hz7) u17 u1o ?_
 refine hK.out _ _ ⟨⟨hs7.put (by omega) _, (setCells_other _ _ _ _ (by omega)).trans hq7⟩, ⟨uu, u17, hr0.out⟩⟩ (fun _ => ?_)
 clear hK K hHeld
 refine wpAnyH_done (by kernel_rfl) ?_ _
 go_wp2_with fail
 refine bodyPost_ret (results_st Tryz.results245 _ _ rfl hr0.out u17) rfl ⟨rfl, HA.out.upon HA7.out HBf.out, AKeep.upon HA.out HK7.out HBf.out⟩
end WI
end Go.Proofs.YtiopfihjmkfdmaaGreatDoor
