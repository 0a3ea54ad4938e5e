import Derived.Test.YtiopfihjmkfdmaaGreatDoorU27
namespace Go.Proofs.YtiopfihjmkfdmaaGreatDoor
open Go.RowKit
set_option maxRecDepth 100000
set_option maxHeartbeats 1000000
theorem mul_small {a c : Int} (h1 : -32768 ≤ a) (h2 : a ≤ 32767) (h3 : -32768 ≤ c) (h4 : c ≤ 32767) : -2147483648 ≤ a * c ∧ a * c ≤ 2147483648 := by
 have h : (a * c).natAbs ≤ 32768 * 32768 := by
  rw [Int.natAbs_mul]
  exact Nat.mul_le_mul (by omega) (by omega)
 omega
theorem iv_work0 (dv : Value) (a b c d : Int) (w : World) (h1 : -32768 ≤ a) (h2 : a ≤ b) (h3 : b ≤ 32767) (h4 : -32768 ≤ c) (h5 : c ≤ d) (h6 : d ≤ 32767) :
  Calls Tryz.prog 328 #[.agg #[dv], .int .i64 0, .agg #[.int .i16 a, .int .i16 b], .agg #[.int .i16 c, .int .i16 d]] w fun e w' => e = .returned (optV (Sp.ivWork 0 ⟨a, b⟩ ⟨c, d⟩)) ∧ Below w.heap.size w w' := by
 have E0 : Hid (Sp.ivWork 0 ⟨a, b⟩ ⟨c, d⟩ = some (Sp.hullL [(a + c), (b + d)])) := by
  unfold Hid; rw [hull_two (by omega)]; rfl
 have HH0 : Hid (∀ W : World, Calls Tryz.prog 335 #[.slice (some ⟨W.heap.size, 0, none⟩) 2 2] (W.alloc (.cells #[.int .i64 (a + c), .int .i64 (b + d)] 3)) fun e w' => e = .returned (.agg #[.int .i16 (Sp.hullL [(a + c), (b + d)]).a, .int .i16 (Sp.hullL [(a + c), (b + d)]).b]) ∧ Below W.heap.size W w') := fun W => hull_new2 (a + c) (b + d) W 3
 generalize Sp.hullL [(a + c), (b + d)] = hv at *
 have E : Hid (Sp.ivWork 0 ⟨a, b⟩ ⟨c, d⟩ = some hv) := E0
 clear E0
 go_enter Tryz.func328, Tryz.ntmps328
 go_wp2_with fail
 refine (iv_ends a b _ h1 (by omega) (by omega) h3).mono ?_
 rintro e w1 ⟨rfl, b1⟩
 obtain ⟨ho, hx, hy, hz, bw⟩ := laid4b b1
 obtain ⟨y0, y1, yf0, yf1, yq⟩ := res2 hy
 have HX : Hid (_ = _) := hx
 have HY : Hid (_ = _) := hy
 have HZ : Hid (_ = _) := hz
 have BW : Hid (_ ) := bw
 clear b1 hz bw hy hx ho yf0 yf1 yq
 go_wp2_with fail
 refine (iv_ends c d _ h4 (by omega) (by omega) h6).mono ?_
 rintro e w2 ⟨rfl, b2⟩
 have hz2 : w2.heap[w.heap.size + 1 + 1 + 1]? = _ := (b2.block _ (heap_lt HZ.out)).trans HZ.out
 have hx2 : w2.heap[w.heap.size + 1]? = _ := (b2.block _ (heap_lt HX.out)).trans HX.out
 have hy2 : w2.heap[w.heap.size + 1 + 1]? = _ := (b2.block _ (heap_lt HY.out)).trans HY.out
 have HZ2 : Hid (_ = _) := hz2
 obtain ⟨x0, x1, xf0, xf1, xq⟩ := res2 hx2
 clear y0 y1
 obtain ⟨y0, y1, yf0, yf1, yq⟩ := res2 hy2
 have B2 : Hid (Below w.heap.size w w2) := BW.out.trans (b2.mono BW.out.size)
 clear b2 hx2 hy2 hz2 xf0 xf1 yf0 yf1 xq yq
 have HH : Hid (Calls _ _ _ _ _) := HH0.out w2
 clear HH0
 go_wp2_with fail
 refine HH.out.mono ?_
 rintro e w3 ⟨rfl, b3⟩
 have hz3 : w3.heap[w.heap.size + 1 + 1 + 1]? = _ := (b3.block _ (heap_lt HZ2.out)).trans HZ2.out
 obtain ⟨m0, m1, mf0, mf1, mq⟩ := res2 hz3
 have MQ : Hid (_ ∧ _) := mq (.int .i16 hv.a) (.int .i16 hv.b)
 have B3 : Hid (Below w.heap.size w w3) := B2.out.trans (b3.mono B2.out.size)
 clear mq b3 hz3 x0 x1 y0 y1
 go_wp2_with fail
 exact bodyPost_ret (v := .tuple #[.agg #[.int .i16 hv.a, .int .i16 hv.b], .bool true]) (by simp [results, Tryz.results328, go_sem, MQ.out.1, MQ.out.2]) rfl ⟨opt_some E.out, (B3.out.setCell (p := ⟨w.heap.size + 1 + 1 + 1, 0, none⟩) (by show w.heap.size ≤ w.heap.size + 1 + 1 + 1; omega) _).setCell (p := ⟨w.heap.size + 1 + 1 + 1, 1, none⟩) (by show w.heap.size ≤ w.heap.size + 1 + 1 + 1; omega) _⟩
theorem iv_work1 (dv : Value) (a b c d : Int) (w : World) (h1 : -32768 ≤ a) (h2 : a ≤ b) (h3 : b ≤ 32767) (h4 : -32768 ≤ c) (h5 : c ≤ d) (h6 : d ≤ 32767) :
  Calls Tryz.prog 328 #[.agg #[dv], .int .i64 1, .agg #[.int .i16 a, .int .i16 b], .agg #[.int .i16 c, .int .i16 d]] w fun e w' => e = .returned (optV (Sp.ivWork 1 ⟨a, b⟩ ⟨c, d⟩)) ∧ Below w.heap.size w w' := by
 have E0 : Hid (Sp.ivWork 1 ⟨a, b⟩ ⟨c, d⟩ = some (Sp.hullL [(a - d), (b - c)])) := by
  unfold Hid; rw [hull_two (by omega)]; rfl
 have HH0 : Hid (∀ W : World, Calls Tryz.prog 335 #[.slice (some ⟨W.heap.size, 0, none⟩) 2 2] (W.alloc (.cells #[.int .i64 (a - d), .int .i64 (b - c)] 3)) fun e w' => e = .returned (.agg #[.int .i16 (Sp.hullL [(a - d), (b - c)]).a, .int .i16 (Sp.hullL [(a - d), (b - c)]).b]) ∧ Below W.heap.size W w') := fun W => hull_new2 (a - d) (b - c) W 3
 generalize Sp.hullL [(a - d), (b - c)] = hv at *
 have E : Hid (Sp.ivWork 1 ⟨a, b⟩ ⟨c, d⟩ = some hv) := E0
 clear E0
 go_enter Tryz.func328, Tryz.ntmps328
 go_wp2_with fail
 refine (iv_ends a b _ h1 (by omega) (by omega) h3).mono ?_
 rintro e w1 ⟨rfl, b1⟩
 obtain ⟨ho, hx, hy, hz, bw⟩ := laid4b b1
 obtain ⟨y0, y1, yf0, yf1, yq⟩ := res2 hy
 have HX : Hid (_ = _) := hx
 have HY : Hid (_ = _) := hy
 have HZ : Hid (_ = _) := hz
 have BW : Hid (_ ) := bw
 clear b1 hz bw hy hx ho yf0 yf1 yq
 go_wp2_with fail
 refine (iv_ends c d _ h4 (by omega) (by omega) h6).mono ?_
 rintro e w2 ⟨rfl, b2⟩
 have hz2 : w2.heap[w.heap.size + 1 + 1 + 1]? = _ := (b2.block _ (heap_lt HZ.out)).trans HZ.out
 have hx2 : w2.heap[w.heap.size + 1]? = _ := (b2.block _ (heap_lt HX.out)).trans HX.out
 have hy2 : w2.heap[w.heap.size + 1 + 1]? = _ := (b2.block _ (heap_lt HY.out)).trans HY.out
 have HZ2 : Hid (_ = _) := hz2
 obtain ⟨x0, x1, xf0, xf1, xq⟩ := res2 hx2
 clear y0 y1
 obtain ⟨y0, y1, yf0, yf1, yq⟩ := res2 hy2
 have B2 : Hid (Below w.heap.size w w2) := BW.out.trans (b2.mono BW.out.size)
 clear b2 hx2 hy2 hz2 xf0 xf1 yf0 yf1 xq yq
 have HH : Hid (Calls _ _ _ _ _) := HH0.out w2
 clear HH0
 go_wp2_with fail
 refine HH.out.mono ?_
 rintro e w3 ⟨rfl, b3⟩
 have hz3 : w3.heap[w.heap.size + 1 + 1 + 1]? = _ := (b3.block _ (heap_lt HZ2.out)).trans HZ2.out
 obtain ⟨m0, m1, mf0, mf1, mq⟩ := res2 hz3
 have MQ : Hid (_ ∧ _) := mq (.int .i16 hv.a) (.int .i16 hv.b)
 have B3 : Hid (Below w.heap.size w w3) := B2.out.trans (b3.mono B2.out.size)
 clear mq b3 hz3 x0 x1 y0 y1
 go_wp2_with fail
 exact bodyPost_ret (v := .tuple #[.agg #[.int .i16 hv.a, .int .i16 hv.b], .bool true]) (by simp [results, Tryz.results328, go_sem, MQ.out.1, MQ.out.2]) rfl ⟨opt_some E.out, (B3.out.setCell (p := ⟨w.heap.size + 1 + 1 + 1, 0, none⟩) (by show w.heap.size ≤ w.heap.size + 1 + 1 + 1; omega) _).setCell (p := ⟨w.heap.size + 1 + 1 + 1, 1, none⟩) (by show w.heap.size ≤ w.heap.size + 1 + 1 + 1; omega) _⟩
theorem iv_work2 (dv : Value) (a b c d : Int) (w : World) (h1 : -32768 ≤ a) (h2 : a ≤ b) (h3 : b ≤ 32767) (h4 : -32768 ≤ c) (h5 : c ≤ d) (h6 : d ≤ 32767) :
  Calls Tryz.prog 328 #[.agg #[dv], .int .i64 2, .agg #[.int .i16 a, .int .i16 b], .agg #[.int .i16 c, .int .i16 d]] w fun e w' => e = .returned (optV (Sp.ivWork 2 ⟨a, b⟩ ⟨c, d⟩)) ∧ Below w.heap.size w w' := by
 have E0 : Hid (Sp.ivWork 2 ⟨a, b⟩ ⟨c, d⟩ = some (Sp.hullL [(a * c), (a * d), (b * c), (b * d)])) := rfl
 have HH0 : Hid (∀ W : World, Calls Tryz.prog 335 #[.slice (some ⟨W.heap.size, 0, none⟩) 4 4] (W.alloc (.cells #[.int .i64 (a * c), .int .i64 (a * d), .int .i64 (b * c), .int .i64 (b * d)] 3)) fun e w' => e = .returned (.agg #[.int .i16 (Sp.hullL [(a * c), (a * d), (b * c), (b * d)]).a, .int .i16 (Sp.hullL [(a * c), (a * d), (b * c), (b * d)]).b]) ∧ Below W.heap.size W w') := fun W => hull_new4 (a * c) (a * d) (b * c) (b * d) W 3
 generalize Sp.hullL [(a * c), (a * d), (b * c), (b * d)] = hv at *
 have E : Hid (Sp.ivWork 2 ⟨a, b⟩ ⟨c, d⟩ = some hv) := E0
 clear E0
 obtain ⟨p1, p2⟩ := mul_small h1 (by omega : a ≤ 32767) h4 (by omega : c ≤ 32767)
 obtain ⟨p3, p4⟩ := mul_small h1 (by omega : a ≤ 32767) (by omega : -32768 ≤ d) h6
 obtain ⟨p5, p6⟩ := mul_small (by omega : -32768 ≤ b) h3 h4 (by omega : c ≤ 32767)
 obtain ⟨p7, p8⟩ := mul_small (by omega : -32768 ≤ b) h3 (by omega : -32768 ≤ d) h6
 go_enter Tryz.func328, Tryz.ntmps328
 go_wp2_with fail
 refine (iv_ends a b _ h1 (by omega) (by omega) h3).mono ?_
 rintro e w1 ⟨rfl, b1⟩
 obtain ⟨ho, hx, hy, hz, bw⟩ := laid4b b1
 obtain ⟨y0, y1, yf0, yf1, yq⟩ := res2 hy
 have HX : Hid (_ = _) := hx
 have HY : Hid (_ = _) := hy
 have HZ : Hid (_ = _) := hz
 have BW : Hid (_ ) := bw
 clear b1 hz bw hy hx ho yf0 yf1 yq
 go_wp2_with fail
 refine (iv_ends c d _ h4 (by omega) (by omega) h6).mono ?_
 rintro e w2 ⟨rfl, b2⟩
 have hz2 : w2.heap[w.heap.size + 1 + 1 + 1]? = _ := (b2.block _ (heap_lt HZ.out)).trans HZ.out
 have hx2 : w2.heap[w.heap.size + 1]? = _ := (b2.block _ (heap_lt HX.out)).trans HX.out
 have hy2 : w2.heap[w.heap.size + 1 + 1]? = _ := (b2.block _ (heap_lt HY.out)).trans HY.out
 have HZ2 : Hid (_ = _) := hz2
 obtain ⟨x0, x1, xf0, xf1, xq⟩ := res2 hx2
 clear y0 y1
 obtain ⟨y0, y1, yf0, yf1, yq⟩ := res2 hy2
 have B2 : Hid (Below w.heap.size w w2) := BW.out.trans (b2.mono BW.out.size)
 clear b2 hx2 hy2 hz2 xf0 xf1 yf0 yf1 xq yq
 have HH : Hid (Calls _ _ _ _ _) := HH0.out w2
 clear HH0
 go_wp2_with fail
 refine HH.out.mono ?_
 rintro e w3 ⟨rfl, b3⟩
 have hz3 : w3.heap[w.heap.size + 1 + 1 + 1]? = _ := (b3.block _ (heap_lt HZ2.out)).trans HZ2.out
 obtain ⟨m0, m1, mf0, mf1, mq⟩ := res2 hz3
 have MQ : Hid (_ ∧ _) := mq (.int .i16 hv.a) (.int .i16 hv.b)
 have B3 : Hid (Below w.heap.size w w3) := B2.out.trans (b3.mono B2.out.size)
 clear mq b3 hz3 x0 x1 y0 y1
 go_wp2_with fail
 exact bodyPost_ret (v := .tuple #[.agg #[.int .i16 hv.a, .int .i16 hv.b], .bool true]) (by simp [results, Tryz.results328, go_sem, MQ.out.1, MQ.out.2]) rfl ⟨opt_some E.out, (B3.out.setCell (p := ⟨w.heap.size + 1 + 1 + 1, 0, none⟩) (by show w.heap.size ≤ w.heap.size + 1 + 1 + 1; omega) _).setCell (p := ⟨w.heap.size + 1 + 1 + 1, 1, none⟩) (by show w.heap.size ≤ w.heap.size + 1 + 1 + 1; omega) _⟩
theorem iv_work3 (dv : Value) (a b c d : Int) (w : World) (h1 : -32768 ≤ a) (h2 : a ≤ b) (h3 : b ≤ 32767) (h4 : -32768 ≤ c) (h5 : c ≤ d) (h6 : d ≤ 32767) :
  Calls Tryz.prog 328 #[.agg #[dv], .int .i64 3, .agg #[.int .i16 a, .int .i16 b], .agg #[.int .i16 c, .int .i16 d]] w fun e w' => e = .returned (optV (Sp.ivWork 3 ⟨a, b⟩ ⟨c, d⟩)) ∧ Below w.heap.size w w' := by
 have E : Hid (Sp.ivWork 3 ⟨a, b⟩ ⟨c, d⟩ = Sp.ivDivide ⟨a, b⟩ ⟨c, d⟩) := rfl
 go_enter Tryz.func328, Tryz.ntmps328
 go_wp2_with fail
 refine (iv_ends a b _ h1 (by omega) (by omega) h3).mono ?_
 rintro e w1 ⟨rfl, b1⟩
 obtain ⟨ho, hx, hy, hz, bw⟩ := laid4b b1
 obtain ⟨y0, y1, yf0, yf1, yq⟩ := res2 hy
 have HX : Hid (_ = _) := hx
 have HY : Hid (_ = _) := hy
 have HZ : Hid (_ = _) := hz
 have BW : Hid (_ ) := bw
 clear b1 hz bw hy hx ho yf0 yf1 yq
 go_wp2_with fail
 refine (iv_ends c d _ h4 (by omega) (by omega) h6).mono ?_
 rintro e w2 ⟨rfl, b2⟩
 have hz2 : w2.heap[w.heap.size + 1 + 1 + 1]? = _ := (b2.block _ (heap_lt HZ.out)).trans HZ.out
 have hx2 : w2.heap[w.heap.size + 1]? = _ := (b2.block _ (heap_lt HX.out)).trans HX.out
 have hy2 : w2.heap[w.heap.size + 1 + 1]? = _ := (b2.block _ (heap_lt HY.out)).trans HY.out
 have HZ2 : Hid (_ = _) := hz2
 obtain ⟨x0, x1, xf0, xf1, xq⟩ := res2 hx2
 clear y0 y1
 obtain ⟨y0, y1, yf0, yf1, yq⟩ := res2 hy2
 have B2 : Hid (Below w.heap.size w w2) := BW.out.trans (b2.mono BW.out.size)
 clear b2 hx2 hy2 hz2 xf0 xf1 yf0 yf1 xq yq
 go_wp2_with fail
 refine (iv_divide a b c d w2 h1 h2 h3 h4 h5 h6).mono ?_
 rintro e w3 ⟨rfl, b3⟩
 have hz3 : w3.heap[w.heap.size + 1 + 1 + 1]? = _ := (b3.block _ (heap_lt HZ2.out)).trans HZ2.out
 obtain ⟨m0, m1, mf0, mf1, mq⟩ := res2 hz3
 have B3 : Hid (Below w.heap.size w w3) := B2.out.trans (b3.mono B2.out.size)
 clear b3 hz3 x0 x1 y0 y1
 cases hr : Sp.ivDivide ⟨a, b⟩ ⟨c, d⟩ with
 | none =>
  have EE : Hid (_ = none) := E.out.trans hr
  have MQ : Hid (_ ∧ _) := mq (.int .i16 0) (.int .i16 0)
  clear mq hr E
  simp only [optV]
  go_wp2_with fail
  exact bodyPost_ret (v := .tuple #[.agg #[.int .i16 0, .int .i16 0], .bool false]) (by simp [results, Tryz.results328, go_sem, MQ.out.1, MQ.out.2]) rfl ⟨opt_none EE.out, (B3.out.setCell (p := ⟨w.heap.size + 1 + 1 + 1, 0, none⟩) (by show w.heap.size ≤ w.heap.size + 1 + 1 + 1; omega) _).setCell (p := ⟨w.heap.size + 1 + 1 + 1, 1, none⟩) (by show w.heap.size ≤ w.heap.size + 1 + 1 + 1; omega) _⟩
 | some v =>
  have EE : Hid (_ = some v) := E.out.trans hr
  have MQ : Hid (_ ∧ _) := mq (.int .i16 v.a) (.int .i16 v.b)
  clear mq hr E
  simp only [optV]
  go_wp2_with fail
  exact bodyPost_ret (v := .tuple #[.agg #[.int .i16 v.a, .int .i16 v.b], .bool true]) (by simp [results, Tryz.results328, go_sem, MQ.out.1, MQ.out.2]) rfl ⟨opt_some EE.out, (B3.out.setCell (p := ⟨w.heap.size + 1 + 1 + 1, 0, none⟩) (by show w.heap.size ≤ w.heap.size + 1 + 1 + 1; omega) _).setCell (p := ⟨w.heap.size + 1 + 1 + 1, 1, none⟩) (by show w.heap.size ≤ w.heap.size + 1 + 1 + 1; omega) _⟩
theorem iv_work4 (dv : Value) (a b c d : Int) (w : World) (h1 : -32768 ≤ a) (h2 : a ≤ b) (h3 : b ≤ 32767) (h4 : -32768 ≤ c) (h5 : c ≤ d) (h6 : d ≤ 32767) :
  Calls Tryz.prog 328 #[.agg #[dv], .int .i64 4, .agg #[.int .i16 a, .int .i16 b], .agg #[.int .i16 c, .int .i16 d]] w fun e w' => e = .returned (optV (Sp.ivWork 4 ⟨a, b⟩ ⟨c, d⟩)) ∧ Below w.heap.size w w' := by
 have E : Hid (Sp.ivWork 4 ⟨a, b⟩ ⟨c, d⟩ = Sp.ivRest ⟨a, b⟩ ⟨c, d⟩) := rfl
 go_enter Tryz.func328, Tryz.ntmps328
 go_wp2_with fail
 refine (iv_ends a b _ h1 (by omega) (by omega) h3).mono ?_
 rintro e w1 ⟨rfl, b1⟩
 obtain ⟨ho, hx, hy, hz, bw⟩ := laid4b b1
 obtain ⟨y0, y1, yf0, yf1, yq⟩ := res2 hy
 have HX : Hid (_ = _) := hx
 have HY : Hid (_ = _) := hy
 have HZ : Hid (_ = _) := hz
 have BW : Hid (_ ) := bw
 clear b1 hz bw hy hx ho yf0 yf1 yq
 go_wp2_with fail
 refine (iv_ends c d _ h4 (by omega) (by omega) h6).mono ?_
 rintro e w2 ⟨rfl, b2⟩
 have hz2 : w2.heap[w.heap.size + 1 + 1 + 1]? = _ := (b2.block _ (heap_lt HZ.out)).trans HZ.out
 have hx2 : w2.heap[w.heap.size + 1]? = _ := (b2.block _ (heap_lt HX.out)).trans HX.out
 have hy2 : w2.heap[w.heap.size + 1 + 1]? = _ := (b2.block _ (heap_lt HY.out)).trans HY.out
 have HZ2 : Hid (_ = _) := hz2
 obtain ⟨x0, x1, xf0, xf1, xq⟩ := res2 hx2
 clear y0 y1
 obtain ⟨y0, y1, yf0, yf1, yq⟩ := res2 hy2
 have B2 : Hid (Below w.heap.size w w2) := BW.out.trans (b2.mono BW.out.size)
 clear b2 hx2 hy2 hz2 xf0 xf1 yf0 yf1 xq yq
 go_wp2_with fail
 refine (iv_remainder a b c d w2 h1 h2 h3 h4 h5 h6).mono ?_
 rintro e w3 ⟨rfl, b3⟩
 have hz3 : w3.heap[w.heap.size + 1 + 1 + 1]? = _ := (b3.block _ (heap_lt HZ2.out)).trans HZ2.out
 obtain ⟨m0, m1, mf0, mf1, mq⟩ := res2 hz3
 have B3 : Hid (Below w.heap.size w w3) := B2.out.trans (b3.mono B2.out.size)
 clear b3 hz3 x0 x1 y0 y1
 cases hr : Sp.ivRest ⟨a, b⟩ ⟨c, d⟩ with
 | none =>
  have EE : Hid (_ = none) := E.out.trans hr
  have MQ : Hid (_ ∧ _) := mq (.int .i16 0) (.int .i16 0)
  clear mq hr E
  simp only [optV]
  go_wp2_with fail
  exact bodyPost_ret (v := .tuple #[.agg #[.int .i16 0, .int .i16 0], .bool false]) (by simp [results, Tryz.results328, go_sem, MQ.out.1, MQ.out.2]) rfl ⟨opt_none EE.out, (B3.out.setCell (p := ⟨w.heap.size + 1 + 1 + 1, 0, none⟩) (by show w.heap.size ≤ w.heap.size + 1 + 1 + 1; omega) _).setCell (p := ⟨w.heap.size + 1 + 1 + 1, 1, none⟩) (by show w.heap.size ≤ w.heap.size + 1 + 1 + 1; omega) _⟩
 | some v =>
  have EE : Hid (_ = some v) := E.out.trans hr
  have MQ : Hid (_ ∧ _) := mq (.int .i16 v.a) (.int .i16 v.b)
  clear mq hr E
  simp only [optV]
  go_wp2_with fail
  exact bodyPost_ret (v := .tuple #[.agg #[.int .i16 v.a, .int .i16 v.b], .bool true]) (by simp [results, Tryz.results328, go_sem, MQ.out.1, MQ.out.2]) rfl ⟨opt_some EE.out, (B3.out.setCell (p := ⟨w.heap.size + 1 + 1 + 1, 0, none⟩) (by show w.heap.size ≤ w.heap.size + 1 + 1 + 1; omega) _).setCell (p := ⟨w.heap.size + 1 + 1 + 1, 1, none⟩) (by show w.heap.size ≤ w.heap.size + 1 + 1 + 1; omega) _⟩
theorem iv_work (dv : Value) (k : Nat) (hk : k < 5) (a b c d : Int) (w : World) (h1 : -32768 ≤ a) (h2 : a ≤ b) (h3 : b ≤ 32767) (h4 : -32768 ≤ c) (h5 : c ≤ d) (h6 : d ≤ 32767) :
  Calls Tryz.prog 328 #[.agg #[dv], .int .i64 (k : Nat), .agg #[.int .i16 a, .int .i16 b], .agg #[.int .i16 c, .int .i16 d]] w fun e w' => e = .returned (optV (Sp.ivWork k ⟨a, b⟩ ⟨c, d⟩)) ∧ Below w.heap.size w w' := by
 rcases (show k = 0 ∨ k = 1 ∨ k = 2 ∨ k = 3 ∨ k = 4 from by omega) with rfl | rfl | rfl | rfl | rfl
 ·exact iv_work0 dv a b c d w h1 h2 h3 h4 h5 h6
 ·exact iv_work1 dv a b c d w h1 h2 h3 h4 h5 h6
 ·exact iv_work2 dv a b c d w h1 h2 h3 h4 h5 h6
 ·exact iv_work3 dv a b c d w h1 h2 h3 h4 h5 h6
 ·exact iv_work4 dv a b c d w h1 h2 h3 h4 h5 h6
end Go.Proofs.YtiopfihjmkfdmaaGreatDoor
