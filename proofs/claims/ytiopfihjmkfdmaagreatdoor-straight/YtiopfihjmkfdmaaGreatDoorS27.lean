import Derived.Test.YtiopfihjmkfdmaaGreatDoorS26
import Derived.Test.YtiopfihjmkfdmaaGreatDoorS24
import Derived.MapKept
import Derived.Test.YtiopfihjmkfdmaaGreatDoorS23
import Derived.Test.YtiopfihjmkfdmaaGreatDoorS18
namespace Go.Proofs.YtiopfihjmkfdmaaGreatDoor
namespace WI
open Go.RowKit
set_option maxRecDepth 100000
set_option maxHeartbeats 1000000
theorem infoEn : (Tryz.prog.info? 365).map (·.size) = some 18 := by kernel_rfl
theorem infoPa : (Tryz.prog.info? 367).map (·.size) = some 18 := by kernel_rfl
theorem keyA_size (p : Int) (s : ST) : (keyA p s).size = 18 := by rw [← Array.length_toList, keyA_list, List.length_cons, stC_len]
theorem keyA_one (p : Int) (s : ST) : (keyA p s).all (·.oneCell') = true := by
 have h := stC_one s
 rw [Array.all_eq_true_iff_forall_mem] at h ⊢
 intro x hx
 rcases Array.mem_append.1 hx with hx | hx
 ·simp at hx; subst hx; rfl
 ·exact h x hx
theorem pasA_size (t : ST) (d : Bool) : (pasA t d).size = 18 := by unfold pasA; rw [Array.size_push, stC_size]
theorem pasA_one (t : ST) (d : Bool) : (pasA t d).all (·.oneCell') = true := by
 have h := stC_one t
 rw [Array.all_eq_true_iff_forall_mem] at h ⊢
 intro x hx
 rcases Array.mem_push.1 hx with hx | hx
 ·exact h x hx
 ·subst hx; rfl
theorem pasA_told (t : ST) (d : Bool) : (pasA t d)[17]? = some (.bool d) := by
 unfold pasA
 rw [Array.getElem?_push, stC_size]
 rfl
theorem pasA_state (t : ST) (d : Bool) {j : Nat} (hj : j < 17) : (pasA t d)[j]? = (stC t)[j]? := by
 unfold pasA
 rw [Array.getElem?_push, stC_size, if_neg (by omega)]
theorem arr17 {xa : Array Value} (h : xa.size = 17) : ∃ a0 a1 a2 a3 a4 a5 a6 a7 a8 a9 a10 a11 a12 a13 a14 a15 a16, xa = #[a0, a1, a2, a3, a4, a5, a6, a7, a8, a9, a10, a11, a12, a13, a14, a15, a16] := by
 rcases xa with ⟨l⟩
 match l, h with
 | [a0, a1, a2, a3, a4, a5, a6, a7, a8, a9, a10, a11, a12, a13, a14, a15, a16], _ => exact ⟨a0, a1, a2, a3, a4, a5, a6, a7, a8, a9, a10, a11, a12, a13, a14, a15, a16, rfl⟩
theorem build_en (p : Int) (s : ST) (w : World) : (Instr.build 365 #[(0, .int .i64 p), (1, .agg (stC s))]).run Tryz.prog w = .ok (.agg (keyA p s)) w := by
 unfold keyA
 obtain ⟨a0, a1, a2, a3, a4, a5, a6, a7, a8, a9, a10, a11, a12, a13, a14, a15, a16, e⟩ := arr17 (stC_size s)
 rw [e]
 kernel_rfl
theorem build_pa (t : ST) (d : Bool) (w : World) : (Instr.build 367 #[(0, .agg (stC t)), (1, .bool d)]).run Tryz.prog w = .ok (.agg (pasA t d)) w := by
 unfold pasA
 obtain ⟨a0, a1, a2, a3, a4, a5, a6, a7, a8, a9, a10, a11, a12, a13, a14, a15, a16, e⟩ := arr17 (stC_size t)
 rw [e]
 kernel_rfl
theorem keyA_inj {p p' : Int} {s s' : ST} (h : (Value.agg (keyA p s)) = .agg (keyA p' s')) : p = p' ∧ s = s' := by
 injection h with h
 have h2 := congrArg Array.toList h
 rw [keyA_list, keyA_list] at h2
 injection h2 with h3 h4
 injection h3 with _ h3
 exact ⟨h3, stC_inj (Array.toList_inj.1 h4)⟩
abbrev mapT : TypeId := 211
theorem memo_keys {π : Par} {T : Tab} {F : Fd} {es : Array MapEntry} (hE : ∀ x ∈ es.toList, MemoE π T F x) : ∀ e ∈ es.toList, ∃ l, keyOf Tryz.prog 365 e.key = some l := fun e he => by
 obtain ⟨p, s, t, d, h1, h2, h3, h4, h5, h6⟩ := hE e he
 rw [h1]
 exact key_en h3 h4
theorem memo_look {π : Par} {T : Tab} {F : Fd} {es : Array MapEntry} {cl m : Nat} {w : World} (hm : w.heap[m]? = some (.map es cl)) (hE : ∀ x ∈ es.toList, MemoE π T F x) {s : ST} (hs : Sp.Wf (Kr π) s) {p : Int} (hp : 0 ≤ p ∧ p ≤ 1000000) :
  ∃ t d ok, (Instr.lookup mapT (.map (some m)) (.agg (keyA p s)) true).run Tryz.prog w = .ok (.tuple #[.agg (pasA t d), .bool ok]) w ∧ (ok = true → (T p s).2 = t ∧ (d = true → Sp.ToldAll (Kr π) F (T p s).1)) := by
 obtain ⟨l, hl⟩ := key_en hs hp
 rcases law_en.find w hl es.toList (memo_keys hE) with ⟨h1, h2⟩ | ⟨j, e0, h1, h2, h3⟩
 ·refine ⟨none, false, false, ?_, fun h => by cases h⟩
  simp [Instr.lookup, run_underlying Tryz.underlying211, MapKept.run_getObj_map hm, law_en.check w _ hl, h1, Result.andThen]
  rfl
 ·obtain ⟨p', s', t, d, k1, k2, k3, k4, k5, k6⟩ := hE e0 (List.mem_of_getElem? h2)
  rw [h3] at k1
  obtain ⟨rfl, rfl⟩ := keyA_inj k1
  refine ⟨t, d, true, ?_, fun _ => ⟨k5, k6⟩⟩
  simp [Instr.lookup, run_underlying Tryz.underlying211, MapKept.run_getObj_map hm, law_en.check w _ hl, h1, k2, Result.andThen]
theorem memo_put {π : Par} {T : Tab} {F : Fd} {es : Array MapEntry} {cl m : Nat} {w : World} (hm : w.heap[m]? = some (.map es cl)) (hE : ∀ x ∈ es.toList, MemoE π T F x) {s : ST} (hs : Sp.Wf (Kr π) s) {p : Int} (hp : 0 ≤ p ∧ p ≤ 1000000) {t : ST} {d : Bool} (h1 : (T p s).2 = t) (h2 : d = true → Sp.ToldAll (Kr π) F (T p s).1) :
  ∃ es' cl', (Instr.mapUpdate mapT (.map (some m)) (.agg (keyA p s)) (.agg (pasA t d))).run Tryz.prog w = .ok () { w with heap := w.heap.setIfInBounds m (.map es' cl') } ∧ ∀ x ∈ es'.toList, MemoE π T F x := by
 obtain ⟨l, hl⟩ := key_en hs hp
 have hnew : ∀ born, MemoE π T F ⟨.agg (keyA p s), .agg (pasA t d), born⟩ := fun born => ⟨p, s, t, d, rfl, rfl, hs, hp, h1, h2⟩
 rcases law_en.find w hl es.toList (memo_keys hE) with ⟨k1, _⟩ | ⟨j, e0, k1, k2, k3⟩
 ·refine ⟨es.push ⟨.agg (keyA p s), .agg (pasA t d), cl⟩, cl + 1, ?_, ?_⟩
  ·simp [Instr.mapUpdate, run_underlying Tryz.underlying211, MapKept.run_getObj_map hm, law_en.check w false hl, k1, MapKept.run_setObj_map _ hm, Result.andThen]
  ·intro x hx
   simp only [Array.toList_push, List.mem_append, List.mem_singleton] at hx
   rcases hx with hx | rfl
   ·exact hE x hx
   ·exact hnew cl
 ·have hj : es[j]? = some e0 := by simpa using k2
  refine ⟨es.modify j (fun e' => { e' with key := .agg (keyA p s), val := .agg (pasA t d) }), cl, ?_, ?_⟩
  ·simp [Instr.mapUpdate, run_underlying Tryz.underlying211, MapKept.run_getObj_map hm, law_en.check w false hl, k1, hj, k3, law_en.stays w hl, MapKept.run_setObj_map _ hm, Result.andThen]
  ·intro x hx
   rw [Array.toList_modify] at hx
   obtain ⟨i, hi⟩ := List.getElem?_of_mem hx
   obtain ⟨y, hy, rfl⟩ := Sp.modify_get hi
   split
   ·exact hnew _
   ·exact hE y (List.mem_of_getElem? hy)
theorem AnAt.memoPut {C : Cx} {π : Par} {T : Tab} {F : Fd} {w : World} (h : AnAt C π T F w) {es : Array MapEntry} {cl : Nat} (hE : ∀ x ∈ es.toList, MemoE π T F x) :
  AnAt C π T F { w with heap := w.heap.setIfInBounds C.m (.map es cl) } ∧ AKeep C w { w with heap := w.heap.setIfInBounds C.m (.map es cl) } := by
 obtain ⟨n1, n2, n3, n4, n5, n6⟩ := h.ne
 have hl := h.lt
 have hk : AKeep C w { w with heap := w.heap.setIfInBounds C.m (.map es cl) } := by
  refine ⟨⟨rfl, rfl, rfl, by simp, fun k hk => ?_⟩, fun k hk _ _ k3 => ?_⟩
  ·have := h.bm
   exact Array.getElem?_setIfInBounds_ne (by omega)
  ·exact Array.getElem?_setIfInBounds_ne (Ne.symm k3)
 refine ⟨⟨?_, ?_, ?_, ⟨es, cl, ?_, hE⟩, h.does.below hk.below, h.turns.below hk.below h.big, h.big, h.bfb, h.bgf, h.bgs, h.bm, h.wfF⟩, hk⟩
 ·exact (Array.getElem?_setIfInBounds_ne (Ne.symm n6)).trans h.hfb
 ·exact (Array.getElem?_setIfInBounds_ne n4).trans h.hgf
 ·exact (Array.getElem?_setIfInBounds_ne n5).trans h.hgs
 ·exact Array.getElem?_setIfInBounds_self_of_lt hl.2.2.2
end WI
end Go.Proofs.YtiopfihjmkfdmaaGreatDoor
namespace Go.Proofs.YtiopfihjmkfdmaaGreatDoor
namespace WI
open Go.RowKit
set_option maxRecDepth 100000
set_option maxHeartbeats 1000000
theorem each_widen (uD : Value) (g : Sp.Iv → Sp.Iv → Sp.Iv) (xs ys : List Sp.Iv) (w : World) (hx : xs.length = 8) (hy : ys.length = 8) (hwx : ∀ x ∈ xs, Wv x) (hwy : ∀ y ∈ ys, Wv y)
  (hput : ∀ W x y, Below w.heap.size w W → Wv x → Wv y → Calls Tryz.prog 327 #[uD, .agg #[.int .i16 x.a, .int .i16 x.b], .agg #[.int .i16 y.a, .int .i16 y.b]] W fun e w' => e = .returned (.agg #[.int .i16 (g x y).a, .int .i16 (g x y).b]) ∧ Below W.heap.size W w') :
  Calls Tryz.prog 162 #[.agg (stI true xs), .agg (stI true ys), .func (Fn.method "Widen") #[.iface 133 uD] #[]] w fun e w' => e = .returned (.agg (stI true (List.zipWith g xs ys))) ∧ Below w.heap.size w w' := by
 have HP : Hid (_) := hput
 have zx := stI_zero true xs
 have zy := stI_zero true ys
 have H0 : Hid (EachAt w xs ys (((w.alloc (.cells (stI true xs) 220)).alloc (.cells (stI true ys) 220)).alloc (.cells #[.bool false, .int .i16 0, .int .i16 0, .int .i16 0, .int .i16 0, .int .i16 0, .int .i16 0, .int .i16 0, .int .i16 0, .int .i16 0, .int .i16 0, .int .i16 0, .int .i16 0, .int .i16 0, .int .i16 0, .int .i16 0, .int .i16 0] 220))) := by
  obtain ⟨k0, k1, k2, kb⟩ := laid3b (w := w) (o1 := .cells (stI true xs) 220) (o2 := .cells (stI true ys) 220) (o3 := .cells noneI 220) (Below.refl _ _)
  exact ⟨k0, k1, k2, kb⟩
 have sx : (stI true xs).size = 17 := stI_size hx
 have sy : (stI true ys).size = 17 := stI_size hy
 clear hput
 go_enter Tryz.func162, Tryz.ntmps162
 go_wp2_with fail
 go_loopw [17] (fun v17 wr => ∃ j : Nat, j ≤ 8 ∧ v17 = .int .i64 j ∧ Hid (EachAt w (mixI g xs ys j) ys wr)) (fun v17 _ => 8 - (intOf v17).toNat)
 case atStart => exact ⟨0, Nat.zero_le _, rfl, H0.out⟩
 case round =>
  obtain ⟨j, hj, rfl, hq⟩ := hrel
  clear H0 zx zy sx sy
  by_cases hjlt : j < 8
  ·obtain ⟨x, hxj⟩ : ∃ x, xs[j]? = some x := ⟨_, List.getElem?_eq_getElem (by omega)⟩
   obtain ⟨y, hyj⟩ : ∃ y, ys[j]? = some y := ⟨_, List.getElem?_eq_getElem (by omega)⟩
   have WX : Hid (Wv x) := hwx x (List.mem_of_getElem? hxj)
   have WY : Hid (Wv y) := hwy y (List.mem_of_getElem? hyj)
   have hmj : (mixI g xs ys j)[j]? = some x := by
    exact mixI_at hx hy hjlt hxj
   have hml : (mixI g xs ys j).length = 8 := by unfold mixI; simp; omega
   have hms : Hid ((mixI g xs ys j).set j (g x y) = mixI g xs ys (j + 1)) := mixI_set hx hy hjlt hxj hyj
   obtain ⟨x0, x1⟩ := stI_get (r := true) hmj
   obtain ⟨y0, y1⟩ := stI_get (r := true) hyj
   have cx0 := cell_of hq.out.x _ x0
   have cx1 := cell_of hq.out.x _ x1
   have cy0 := cell_of hq.out.y _ y0
   have cy1 := cell_of hq.out.y _ y1
   have hji : (j : Int) < 8 := by omega
   clear x0 x1 y0 y1
   go_wp2_with fail
   go_region_with (go_at_call 327; go_must (refine (HP.out _ x y hq.out.b.drew WX.out WY.out).mono ?_); rintro e w1 ⟨rfl, b1⟩; have A1 : Hid (EachAt w (mixI g xs ys j) ys w1) := hq.out.call (W' := w1) ⟨b1.os, b1.tape, b1.output, b1.size, b1.block⟩; obtain ⟨d0, d1, d2, d3⟩ := A1.out.cells hmj)
   all_goals
    have A2 : Hid (EachAt w (mixI g xs ys (j + 1)) ys ((w1.setCell ⟨w.heap.size, 1 + j * 2, none⟩ (.int .i16 (g x y).a)).setCell ⟨w.heap.size, 1 + j * 2 + 1, none⟩ (.int .i16 (g x y).b))) := by
     unfold Hid; rw [← hms.out]; exact A1.out.set (by omega) (g x y)
    clear b1
    go_wp2_with fail
    exact ⟨⟨j + 1, by omega, by go_num, A2⟩, by simp [intOf]; omega⟩
  ·obtain rfl : j = 8 := by omega
   have A : Hid (EachAt w (List.zipWith g xs ys) ys wr) := by unfold Hid; rw [← mixI_end hx hy]; exact hq.out
   have sz : (stI true (List.zipWith g xs ys)).size = 17 := stI_size (by simp; omega)
   have hr : Hid (_ = _) := setCells_whole A.out.z (d := stI true (List.zipWith g xs ys)) (by rw [sz]; rfl)
   have HB : Hid (Below w.heap.size w _) := setCells_below (b := w.heap.size + 1 + 1) (by omega) (stI true (List.zipWith g xs ys)).toList 0 w _ A.out.b
   clear hq hj hjlt
   go_wp2_with (first
    | (refine wp_ld rfl _ rfl rfl A.out.x sz ?_)
    | (refine wp_st rfl _ _ rfl rfl rfl A.out.z rfl sz (stI_one _ _) ?_))
   refine bodyPost_ret (results_st Tryz.results162 _ _ rfl hr.out sz) rfl ⟨rfl, HB.out⟩
theorem each_narrow (uD : Value) (g : Sp.Iv → Sp.Iv → Sp.Iv) (xs ys : List Sp.Iv) (w : World) (hx : xs.length = 8) (hy : ys.length = 8) (hwx : ∀ x ∈ xs, Wv x) (hwy : ∀ y ∈ ys, Wv y)
  (hput : ∀ W x y, Below w.heap.size w W → Wv x → Wv y → Calls Tryz.prog 322 #[uD, .agg #[.int .i16 x.a, .int .i16 x.b], .agg #[.int .i16 y.a, .int .i16 y.b]] W fun e w' => e = .returned (.agg #[.int .i16 (g x y).a, .int .i16 (g x y).b]) ∧ Below W.heap.size W w') :
  Calls Tryz.prog 162 #[.agg (stI true xs), .agg (stI true ys), .func (Fn.method "Narrow") #[.iface 133 uD] #[]] w fun e w' => e = .returned (.agg (stI true (List.zipWith g xs ys))) ∧ Below w.heap.size w w' := by
 have HP : Hid (_) := hput
 have zx := stI_zero true xs
 have zy := stI_zero true ys
 have H0 : Hid (EachAt w xs ys (((w.alloc (.cells (stI true xs) 220)).alloc (.cells (stI true ys) 220)).alloc (.cells #[.bool false, .int .i16 0, .int .i16 0, .int .i16 0, .int .i16 0, .int .i16 0, .int .i16 0, .int .i16 0, .int .i16 0, .int .i16 0, .int .i16 0, .int .i16 0, .int .i16 0, .int .i16 0, .int .i16 0, .int .i16 0, .int .i16 0] 220))) := by
  obtain ⟨k0, k1, k2, kb⟩ := laid3b (w := w) (o1 := .cells (stI true xs) 220) (o2 := .cells (stI true ys) 220) (o3 := .cells noneI 220) (Below.refl _ _)
  exact ⟨k0, k1, k2, kb⟩
 have sx : (stI true xs).size = 17 := stI_size hx
 have sy : (stI true ys).size = 17 := stI_size hy
 clear hput
 go_enter Tryz.func162, Tryz.ntmps162
 go_wp2_with fail
 go_loopw [17] (fun v17 wr => ∃ j : Nat, j ≤ 8 ∧ v17 = .int .i64 j ∧ Hid (EachAt w (mixI g xs ys j) ys wr)) (fun v17 _ => 8 - (intOf v17).toNat)
 case atStart => exact ⟨0, Nat.zero_le _, rfl, H0.out⟩
 case round =>
  obtain ⟨j, hj, rfl, hq⟩ := hrel
  clear H0 zx zy sx sy
  by_cases hjlt : j < 8
  ·obtain ⟨x, hxj⟩ : ∃ x, xs[j]? = some x := ⟨_, List.getElem?_eq_getElem (by omega)⟩
   obtain ⟨y, hyj⟩ : ∃ y, ys[j]? = some y := ⟨_, List.getElem?_eq_getElem (by omega)⟩
   have WX : Hid (Wv x) := hwx x (List.mem_of_getElem? hxj)
   have WY : Hid (Wv y) := hwy y (List.mem_of_getElem? hyj)
   have hmj : (mixI g xs ys j)[j]? = some x := by
    exact mixI_at hx hy hjlt hxj
   have hml : (mixI g xs ys j).length = 8 := by unfold mixI; simp; omega
   have hms : Hid ((mixI g xs ys j).set j (g x y) = mixI g xs ys (j + 1)) := mixI_set hx hy hjlt hxj hyj
   obtain ⟨x0, x1⟩ := stI_get (r := true) hmj
   obtain ⟨y0, y1⟩ := stI_get (r := true) hyj
   have cx0 := cell_of hq.out.x _ x0
   have cx1 := cell_of hq.out.x _ x1
   have cy0 := cell_of hq.out.y _ y0
   have cy1 := cell_of hq.out.y _ y1
   have hji : (j : Int) < 8 := by omega
   clear x0 x1 y0 y1
   go_wp2_with fail
   go_region_with (go_at_call 322; go_must (refine (HP.out _ x y hq.out.b.drew WX.out WY.out).mono ?_); rintro e w1 ⟨rfl, b1⟩; have A1 : Hid (EachAt w (mixI g xs ys j) ys w1) := hq.out.call (W' := w1) ⟨b1.os, b1.tape, b1.output, b1.size, b1.block⟩; obtain ⟨d0, d1, d2, d3⟩ := A1.out.cells hmj)
   all_goals
    have A2 : Hid (EachAt w (mixI g xs ys (j + 1)) ys ((w1.setCell ⟨w.heap.size, 1 + j * 2, none⟩ (.int .i16 (g x y).a)).setCell ⟨w.heap.size, 1 + j * 2 + 1, none⟩ (.int .i16 (g x y).b))) := by
     unfold Hid; rw [← hms.out]; exact A1.out.set (by omega) (g x y)
    clear b1
    go_wp2_with fail
    exact ⟨⟨j + 1, by omega, by go_num, A2⟩, by simp [intOf]; omega⟩
  ·obtain rfl : j = 8 := by omega
   have A : Hid (EachAt w (List.zipWith g xs ys) ys wr) := by unfold Hid; rw [← mixI_end hx hy]; exact hq.out
   have sz : (stI true (List.zipWith g xs ys)).size = 17 := stI_size (by simp; omega)
   have hr : Hid (_ = _) := setCells_whole A.out.z (d := stI true (List.zipWith g xs ys)) (by rw [sz]; rfl)
   have HB : Hid (Below w.heap.size w _) := setCells_below (b := w.heap.size + 1 + 1) (by omega) (stI true (List.zipWith g xs ys)).toList 0 w _ A.out.b
   clear hq hj hjlt
   go_wp2_with (first
    | (refine wp_ld rfl _ rfl rfl A.out.x sz ?_)
    | (refine wp_st rfl _ _ rfl rfl rfl A.out.z rfl sz (stI_one _ _) ?_))
   refine bodyPost_ret (results_st Tryz.results162 _ _ rfl hr.out sz) rfl ⟨rfl, HB.out⟩
end WI
end Go.Proofs.YtiopfihjmkfdmaaGreatDoor
namespace Go.Proofs.YtiopfihjmkfdmaaGreatDoor
namespace WI
open Go.RowKit
set_option maxRecDepth 100000
set_option maxHeartbeats 1000000
theorem each_none (f : Value) (x y : Array Value) (w : World) (h0 : x[0]? = some (.bool false)) :
  Calls Tryz.prog 162 #[.agg x, .agg y, f] w fun e w' => e = .returned (.agg (stC none)) ∧ Below w.heap.size w w' := by
 obtain ⟨k0, k1, k2, kb⟩ := laid3b (w := w) (o1 := .cells x 220) (o2 := .cells y 220) (o3 := .cells #[.bool false, .int .i16 0, .int .i16 0, .int .i16 0, .int .i16 0, .int .i16 0, .int .i16 0, .int .i16 0, .int .i16 0, .int .i16 0, .int .i16 0, .int .i16 0, .int .i16 0, .int .i16 0, .int .i16 0, .int .i16 0, .int .i16 0] 220) (Below.refl _ _)
 have c0 := cell_of k0 0 h0
 have HZ : Hid (_ = _) := k2
 have HBf : Hid (Below w.heap.size w _) := kb
 clear k0 k1 k2 kb
 go_enter Tryz.func162, Tryz.ntmps162
 go_wp2_with fail
 refine bodyPost_ret (results_st Tryz.results162 _ _ rfl HZ.out rfl) rfl ⟨rfl, HBf.out⟩
theorem widen_calls {B : Nat} {π : Par} (dv : Value) (e e' : Fin 8 → Sp.Iv) (w : World) (hd : Does B π dv w) (he : ∀ k, Wv (e k)) (he' : ∀ k, Wv (e' k)) :
  Calls Tryz.prog 162 #[.agg (stC (some e)), .agg (stC (some e')), .func (Fn.method "Widen") #[.iface 133 dv] #[]] w fun r w' => r = .returned (.agg (stC (Sp.eachV (Dm π) (Dm π).widen (some e) (some e')))) ∧ Below w.heap.size w w' := by
 have h := each_widen dv (vWiden π) (List.ofFn e) (List.ofFn e') w (by simp) (by simp) (fun x hx => by obtain ⟨k, rfl⟩ := List.mem_ofFn.1 hx; exact he k) (fun x hx => by obtain ⟨k, rfl⟩ := List.mem_ofFn.1 hx; exact he' k)
  (fun W x y k wx wy => dWiden (hd.below (k.mono hd.size)) wx wy)
 rw [zip_ofFn] at h
 exact h
theorem narrow_calls {B : Nat} {π : Par} (dv : Value) (e e' : Fin 8 → Sp.Iv) (w : World) (hd : Does B π dv w) (he : ∀ k, Wv (e k)) (he' : ∀ k, Wv (e' k)) :
  Calls Tryz.prog 162 #[.agg (stC (some e)), .agg (stC (some e')), .func (Fn.method "Narrow") #[.iface 133 dv] #[]] w fun r w' => r = .returned (.agg (stC (Sp.eachV (Dm π) (Dm π).narrow (some e) (some e')))) ∧ Below w.heap.size w w' := by
 have h := each_narrow dv vNarrow (List.ofFn e) (List.ofFn e') w (by simp) (by simp) (fun x hx => by obtain ⟨k, rfl⟩ := List.mem_ofFn.1 hx; exact he k) (fun x hx => by obtain ⟨k, rfl⟩ := List.mem_ofFn.1 hx; exact he' k)
  (fun W x y k wx wy => dNarrow (hd.below (k.mono hd.size)) wx wy)
 rw [zip_ofFn] at h
 exact h
end WI
end Go.Proofs.YtiopfihjmkfdmaaGreatDoor
namespace Go.Proofs.YtiopfihjmkfdmaaGreatDoor
namespace Sp
section
variable {D : Dom}
structure WdTo (K : Rk D) (next : D.St → D.St) (delay : Nat) (U : D.St) (k f : Nat) (sj : D.St) : Prop where
 sum : f + k = D.fuel + 1
 eq : fixF D next delay f k sj = U
 wf : Wf K sj
 no : sj = none → next none = none
 up : ∀ e, sj = some e → 8 * K.top < rkE K e + f
theorem WdTo.start {K : Rk D} {next : D.St → D.St} {delay : Nat} {U s : D.St} (hU : fixF D next delay D.fuel 1 s = U) (hs : Wf K s) (h0 : s = none → next none = none) : WdTo K next delay U 1 D.fuel s :=
 ⟨rfl, hU, hs, h0, fun _ _ => Nat.lt_of_lt_of_le K.fuel (Nat.le_add_left _ _)⟩
theorem WdTo.end {K : Rk D} {next : D.St → D.St} {delay : Nat} {U : D.St} {k f : Nat} {sj : D.St} (h : WdTo K next delay U k f sj) (he : eqS D (jn D sj (next sj)) sj = true) : sj = U := by
 have := h.eq
 cases f with
 | zero => exact this
 | succ f =>
  rw [fixF_succ, if_pos he] at this
  exact this
theorem WdTo.on {K : Rk D} {next : D.St → D.St} {delay : Nat} {U : D.St} {k f : Nat} {sj : D.St} (h : WdTo K next delay U k f sj) (hn : ∀ i, Wf K i → Wf K (next i)) (he : eqS D (jn D sj (next sj)) sj = false) :
  ∃ e n f', sj = some e ∧ (∀ k, K.wf (e k)) ∧ jn D sj (next sj) = some n ∧ (∀ k, K.wf (n k)) ∧ f = f' + 1 ∧ WdTo K next delay U (k + 1) f' (stepV D next delay k sj) := by
 have hne : ¬ jn D sj (next sj) = sj := fun e => by rw [(eqS_iff D _ _).2 e] at he; cases he
 cases sj with
 | none => rw [h.no rfl] at hne; exact absurd rfl hne
 | some e =>
  have we := h.wf e rfl
  have hj : Wf K (jn D (some e) (next (some e))) := wf_jn h.wf (hn _ h.wf)
  obtain ⟨n, hn'⟩ : ∃ n, jn D (some e) (next (some e)) = some n := by
   cases hx : next (some e) with
   | none => exact ⟨_, rfl⟩
   | some t => exact ⟨_, rfl⟩
  obtain ⟨g, h1, h2, h3⟩ := step_rise (K := K) we (hn _ h.wf) delay k hne
  have hup := h.up e rfl
  have hle := rkE_le (K := K) we
  obtain ⟨f', rfl⟩ : ∃ f', f = f' + 1 := ⟨f - 1, by omega⟩
  refine ⟨e, n, f', rfl, we, hn', hj n hn', rfl, ?_⟩
  have hsum := h.sum
  have heq := h.eq
  rw [fixF_succ, if_neg (by rw [he]; exact Bool.noConfusion)] at heq
  refine ⟨by omega, heq, ?_, ?_, ?_⟩
  ·rw [h1]; exact Wf.some h2
  ·intro e; rw [h1] at e; cases e
  ·intro e he'
   rw [h1] at he'
   cases he'
   omega
structure NrTo (K : Rk D) (cond : CondF D) (body : BodyF D) (s U : D.St) (n : Nat) (sj : D.St) : Prop where
 eq : narF D (nxtV D cond body s) n sj = U
 wf : Wf K sj
 no : s = none → sj = none
 sub : ∀ e, s = some e → subS K (some e) sj
theorem NrTo.start {K : Rk D} {P : Pol} {cond : CondF D} {body : BodyF D} (hc : CondWf K cond) (hb : BodyWf K body) (nc : CondNo cond) (nb : BodyNo body) {s : D.St} (hs : Wf K s) :
  NrTo K cond body s (allV D P cond body s) P.narrow (fixF D (nxtV D cond body s) P.delay D.fuel 1 s) := by
 have hn : ∀ i, Wf K i → Wf K (nxtV D cond body s i) := fun i hi => nxt_wf hc hb hs hi
 have h0 : s = none → nxtV D cond body s none = none := fun e => by
  subst e
  unfold nxtV
  rw [nc, nb]; rfl
 refine ⟨rfl, fixF_wf hn P.delay D.fuel 1 s hs, fun e => ?_, fun e he => ?_⟩
 ·have h1 := h0 e
  subst e
  exact fixF_none h1 _ _ _
 ·subst he
  obtain ⟨i, h1, h2⟩ := fixF_fix hn P.delay D.fuel 1 e (hs e rfl) (by have := K.fuel; omega)
  rw [h1]
  exact fix_sub h2
theorem NrTo.on {K : Rk D} {cond : CondF D} {body : BodyF D} (hc : CondWf K cond) (hb : BodyWf K body) {s U : D.St} (hs : Wf K s) {n : Nat} {sj : D.St} (h : NrTo K cond body s U (n + 1) sj) :
  NrTo K cond body s U n (eachV D D.narrow sj (nxtV D cond body s sj)) ∧ (sj = none ∨ ∃ e e', sj = some e ∧ nxtV D cond body s sj = some e' ∧ (∀ k, K.wf (e k)) ∧ (∀ k, K.wf (e' k))) := by
 have hw := nxt_wf hc hb hs h.wf
 cases s with
 | none =>
  have h1 := h.no rfl
  have h2 := h.eq
  subst h1
  exact ⟨⟨h2, wf_none, fun _ => rfl, fun e he => by cases he⟩, .inl rfl⟩
 | some e =>
  obtain ⟨h1, h2⟩ := narrow_wf (hs e rfl) h.wf hw (h.sub e rfl) (subS_l _ _)
  obtain ⟨g, hg, _⟩ := h.sub e rfl e rfl
  obtain ⟨q, hq, _⟩ := (subS_l (K := K) (some e) (body (cond sj).2.1).2) e rfl
  have hq' : nxtV D cond body (some e) sj = some q := hq
  refine ⟨⟨h.eq, h1, (fun e => by cases e), fun e' he' => by cases he'; exact h2⟩, .inr ⟨g, q, hg, hq', h.wf g hg, hw q hq'⟩⟩
theorem nxt_none {cond : CondF D} {body : BodyF D} (nc : CondNo cond) (nb : BodyNo body) {s : D.St} (h : s = none) : nxtV D cond body s none = none := by
 subst h
 unfold nxtV
 rw [nc, nb]; rfl
theorem anW_point {K : Rk D} {P : Pol} {cond : CondF D} {body : BodyF D} (hc : CondWf K cond) (hb : BodyWf K body) (p : Int) {e : D.Env} (he : ∀ k, K.wf (e k)) : ∃ s', Tel.point p s' ∈ (anW D P cond body p (some e)).1 := by
 unfold anW
 cases hn : P.unroll with
 | zero =>
  obtain ⟨g, hg, _⟩ := (allV_some (P := P) hc hb he).2 e rfl
  refine ⟨g, ?_⟩
  simp only [unrF, List.nil_append]
  rw [hg]
  simp [telP]
 | succ n =>
  refine ⟨e, ?_⟩
  simp [unrF, telP]
structure UnTo (K : Rk D) (cond : CondF D) (body : BodyF D) (p : Int) (U : List (Tel D.V) × D.St × D.St) (m : Nat) (ej : List (Tel D.V)) (oj sj : D.St) : Prop where
 eq : U = (ej ++ (unrF D cond body p m oj sj).1, (unrF D cond body p m oj sj).2)
 wo : Wf K oj
 ws : Wf K sj
theorem UnTo.start {K : Rk D} (cond : CondF D) (body : BodyF D) (p : Int) (m : Nat) {s : D.St} (hs : Wf K s) : UnTo K cond body p (unrF D cond body p m none s) m [] none s := ⟨rfl, wf_none, hs⟩
theorem UnTo.end {K : Rk D} {cond : CondF D} {body : BodyF D} {p : Int} {U : List (Tel D.V) × D.St × D.St} {ej : List (Tel D.V)} {oj sj : D.St} (h : UnTo K cond body p U 0 ej oj sj) : U = (ej, oj, sj) := by
 rw [h.eq]
 simp [unrF]
theorem UnTo.parts {K : Rk D} {cond : CondF D} {body : BodyF D} {p : Int} {U : List (Tel D.V) × D.St × D.St} {m : Nat} {ej : List (Tel D.V)} {oj sj : D.St} (h : UnTo K cond body p U (m + 1) ej oj sj) :
  ∃ more, U.1 = ej ++ telP D p sj ++ (cond sj).1 ++ (body (cond sj).2.1).1 ++ more := by
 rw [h.eq]
 exact ⟨(unrF D cond body p m (jn D oj (cond sj).2.2) (body (cond sj).2.1).2).1, by simp [unrF]⟩
theorem UnTo.on {K : Rk D} {cond : CondF D} {body : BodyF D} (hc : CondWf K cond) (hb : BodyWf K body) {p : Int} {U : List (Tel D.V) × D.St × D.St} {m : Nat} {ej : List (Tel D.V)} {oj sj : D.St} (h : UnTo K cond body p U (m + 1) ej oj sj) :
  UnTo K cond body p U m (ej ++ telP D p sj ++ (cond sj).1 ++ (body (cond sj).2.1).1) (jn D oj (cond sj).2.2) (body (cond sj).2.1).2 := by
 refine ⟨?_, wf_jn h.wo (hc _ h.ws).2, hb _ (hc _ h.ws).1⟩
 rw [h.eq]
 simp [unrF]
end
end Sp
end Go.Proofs.YtiopfihjmkfdmaaGreatDoor
