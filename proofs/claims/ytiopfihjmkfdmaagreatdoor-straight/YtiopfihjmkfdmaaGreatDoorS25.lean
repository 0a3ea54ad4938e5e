import Derived.Test.YtiopfihjmkfdmaaGreatDoorS24
import Derived.Test.YtiopfihjmkfdmaaGreatDoorS23
namespace Go.Proofs.YtiopfihjmkfdmaaGreatDoor
namespace WI
open Go.RowKit
set_option maxRecDepth 100000
set_option maxHeartbeats 2000000
abbrev fcA (r : Bool) (l : List (Int × Int)) : Array Value := stA (fun v : Int × Int => .int .i64 v.1) (fun v : Int × Int => .int .i64 v.2) r l
def zeroF : List (Int × Int) := List.replicate 8 (0, 0)
def toldV (s : ST) : Bool × List (Int × Int) := match s with
 | none => (false, zeroF)
 | some e => (true, List.ofFn fun k => vTell (e k))
def fcC (s : ST) : Array Value := fcA (toldV s).1 (toldV s).2
theorem toldV_len (s : ST) : (toldV s).2.length = 8 := by cases s <;> simp [toldV, zeroF]
theorem fcC_size (s : ST) : (fcC s).size = 17 := stA_size _ _ (toldV_len s)
theorem fcC_one (s : ST) : (fcC s).all (·.oneCell') = true := stA_one _ _ (fun _ => rfl) (fun _ => rfl) _ _
theorem infoFc : (Tryz.prog.info? 76).map (·.size) = some 17 := by kernel_rfl
theorem infoVs : (Tryz.prog.info? 218).map (·.size) = some 16 := by kernel_rfl
def vaA (e : Fin 8 → Sp.Iv) : Array Value := (flat (fun v : Sp.Iv => .int .i16 v.a) (fun v : Sp.Iv => .int .i16 v.b) (List.ofFn e)).toArray
theorem index_v (e : Fin 8 → Sp.Iv) (w : World) : ∀ (j : Nat) (hj : j < 8), (Instr.index 218 (.agg (vaA e)) (.int .i64 (j : Nat))).run Tryz.prog w = .ok (.agg #[.int .i16 (e ⟨j, hj⟩).a, .int .i16 (e ⟨j, hj⟩).b]) w
 | 0, _ => by kernel_rfl
 | 1, _ => by kernel_rfl
 | 2, _ => by kernel_rfl
 | 3, _ => by kernel_rfl
 | 4, _ => by kernel_rfl
 | 5, _ => by kernel_rfl
 | 6, _ => by kernel_rfl
 | 7, _ => by kernel_rfl
structure FcAt (w : World) (xa : Array Value) (l : List (Int × Int)) (W : World) : Prop where
 s : W.heap[w.heap.size]? = some (.cells xa 220)
 z : W.heap[w.heap.size + 1]? = some (.cells (fcA false zeroF) 76)
 x : W.heap[w.heap.size + 1 + 1]? = some (.cells (fcA true l) 76)
 b : Below w.heap.size w W
theorem FcAt.call {w : World} {xa : Array Value} {l : List (Int × Int)} {W W' : World} (h : FcAt w xa l W) (k : Below W.heap.size W W') : FcAt w xa l W' :=
 ⟨(k.block _ (heap_lt h.s)).trans h.s, (k.block _ (heap_lt h.z)).trans h.z, (k.block _ (heap_lt h.x)).trans h.x, h.b.trans (k.mono h.b.size)⟩
theorem FcAt.set {w : World} {xa : Array Value} {l : List (Int × Int)} {W : World} (h : FcAt w xa l W) {j : Nat} (hj : j < l.length) (v : Int × Int) : FcAt w xa (l.set j v) ((W.setCell ⟨w.heap.size + 1 + 1, 1 + j * 2, none⟩ (.int .i64 v.1)).setCell ⟨w.heap.size + 1 + 1, 1 + j * 2 + 1, none⟩ (.int .i64 v.2)) := by
 have e1 : w.heap.size ≠ w.heap.size + 1 + 1 := by omega
 have e2 : w.heap.size + 1 ≠ w.heap.size + 1 + 1 := by omega
 refine ⟨?_, ?_, ?_, (h.b.setCell (p := ⟨w.heap.size + 1 + 1, 1 + j * 2, none⟩) (by show w.heap.size ≤ w.heap.size + 1 + 1; omega) _).setCell (p := ⟨w.heap.size + 1 + 1, 1 + j * 2 + 1, none⟩) (by show w.heap.size ≤ w.heap.size + 1 + 1; omega) _⟩
 ·rw [Below.heap_setCell _ _ _ _ e1, Below.heap_setCell _ _ _ _ e1]; exact h.s
 ·rw [Below.heap_setCell _ _ _ _ e2, Below.heap_setCell _ _ _ _ e2]; exact h.z
 ·rw [heap_setCell_at (heap_setCell_at h.x (1 + j * 2) (.int .i64 v.1)) (1 + j * 2 + 1) (.int .i64 v.2)]
  congr 2
  exact stA_set (fun v : Int × Int => .int .i64 v.1) (fun v : Int × Int => .int .i64 v.2) v hj
def fillT (e : Fin 8 → Sp.Iv) (j : Nat) : List (Int × Int) := (List.ofFn fun k => vTell (e k)).take j ++ List.replicate (8 - j) (0, 0)
theorem fillT_len (e : Fin 8 → Sp.Iv) {j : Nat} (h : j ≤ 8) : (fillT e j).length = 8 := by unfold fillT; simp; omega
theorem fillT_set (e : Fin 8 → Sp.Iv) {j : Nat} (h : j < 8) : (fillT e j).set j (vTell (e ⟨j, h⟩)) = fillT e (j + 1) := by
 have hl : ((List.ofFn fun k => vTell (e k)).take j).length = j := by simp; omega
 have hg : (List.ofFn fun k => vTell (e k))[j]? = some (vTell (e ⟨j, h⟩)) := by rw [List.getElem?_ofFn, dif_pos h]
 have hk := List.getElem?_eq_some_iff.1 hg
 unfold fillT
 rw [List.set_append_right _ _ (by omega), hl, Nat.sub_self, show 8 - j = (8 - (j + 1)) + 1 by omega, List.replicate_succ, List.set_cons_zero, List.take_succ_eq_append_getElem hk.1, hk.2, List.append_assoc]
 rfl
theorem fillT_end (e : Fin 8 → Sp.Iv) : fillT e 8 = List.ofFn fun k => vTell (e k) := by
 unfold fillT
 rw [List.take_of_length_le (by simp)]
 simp
theorem range_va {w : World} {b : Nat} {e : Fin 8 → Sp.Iv} (h : w.heap[b]? = some (.cells (stC (some e)) 220)) : w.rangeAt b 1 (vaA e).toList := fun j v hv => by
 refine cell_of h _ ?_
 have : (stC (some e)).toList = .bool true :: (vaA e).toList := rfl
 rw [← Array.getElem?_toList, this, Nat.add_comm 1 j, List.getElem?_cons_succ]
 exact hv
theorem wp_ldV {ops : Array Oper} {rest : List Oper} {op : Oper} {a : Act} {w : World} {Q : Exit → Act → World → Prop} (hgd : op.guard = none) (x : Operand) (ho : op.op = .load 218 x) {b : Nat} {va : Array Value} (hx : a.eval x = .pointer (some ⟨b, 1, none⟩)) (h : w.rangeAt b 1 va.toList) (hc : va.size = 16)
  (k : wpList Tryz.prog ops Q rest (a.put op.dst (.agg va)) w) : wpList Tryz.prog ops Q (op :: rest) a w := by
 refine wpList_load_mid hgd 218 x ho b 1 hx va.toList _ h Tryz.underlying218 rfl (by rw [infoVs]; simp [hc]) ?_
 simpa using k
theorem wp_ldF {ops : Array Oper} {rest : List Oper} {op : Oper} {a : Act} {w : World} {Q : Exit → Act → World → Prop} (hgd : op.guard = none) (x : Operand) (ho : op.op = .load 76 x) {b : Nat} {c : Array Value} (hx : a.eval x = .pointer (some ⟨b, 0, none⟩)) (h : w.heap[b]? = some (.cells c 76)) (hc : c.size = 17)
  (k : wpList Tryz.prog ops Q rest (a.put op.dst (.agg c)) w) : wpList Tryz.prog ops Q (op :: rest) a w := by
 refine wpList_load_mid hgd 76 x ho b 0 hx c.toList _ (range_of h) Tryz.underlying76 rfl (by rw [infoFc]; simp [hc]) ?_
 simpa using k
theorem wp_stF {ops : Array Oper} {rest : List Oper} {op : Oper} {a : Act} {w : World} {Q : Exit → Act → World → Prop} (hgd : op.guard = none) (x y : Operand) (ho : op.op = .store 76 x y) {b o : Nat} {d : Array Value} (hx : a.eval x = .pointer (some ⟨b, o, none⟩)) (hy : a.eval y = .agg d) (h : w.there b o 17) (hd : d.size = 17) (h1 : d.all (·.oneCell') = true)
  (k : wpList Tryz.prog ops Q rest (a.put op.dst undef) (w.setCells b o d.toList)) : wpList Tryz.prog ops Q (op :: rest) a w :=
 wpList_plain hgd fun _ hK => wp_store_mid 76 x y ho b o d hx hy (by rw [hd]; exact h) (by rw [infoFc, hd]) h1 (hK _ _ k)
theorem loadV_fc {w : World} {b : Nat} {c : Array Value} {fr : Nat × Nat} (h : w.heap[b]? = some (.cells c 76 fr)) (hc : c.size = 17) :
  (loadVar 76 ⟨b, 0, none⟩).run Tryz.prog w = .ok (.agg c) w := by
 have := run_loadVar_mid (P := Tryz.prog) w b 0 76 c.toList _ (fun j v hv => by rw [Nat.zero_add]; exact cell_of h j (by simpa using hv)) Tryz.underlying76 rfl (by rw [infoFc]; simp [hc])
 simpa using this
theorem results_fc {fn : Func} {a : Tmp} (hres : fn.results = #[.cell a 76]) (tmps : Array Value) (w : World) {b : Nat} {c : Array Value} (ht : tmps.getD a undef = .pointer (some ⟨b, 0, none⟩)) (h : w.heap[b]? = some (.cells c 76)) (hc : c.size = 17) :
  (results fn tmps).run Tryz.prog w = .ok (.agg c) w := by
 have hl := loadV_fc h hc
 have ht' : tmps[a]?.getD undef = .pointer (some ⟨b, 0, none⟩) := by rw [← ht]; simp
 unfold results
 rw [hres]
 simp [asAddr, ht', hl]
theorem fact_calls {B : Nat} {π : Par} (dv : Value) (e : Fin 8 → Sp.Iv) (w : World) (hd : Does B π dv w) (he : ∀ k, Wv (e k)) :
  Calls Tryz.prog 117 #[.iface 133 dv, .agg (stC (some e))] w fun r w' => r = .returned (.agg (fcC (some e))) ∧ Below w.heap.size w w' := by
 have HTL : Hid (∀ W j (hj : j < 8), Below w.heap.size w W → Calls _ _ _ W _) := fun W j hj hb => dTell (B := B) (π := π) (dv := dv) (hd.below (hb.mono hd.size)) (he ⟨j, hj⟩)
 have HIX : Hid (∀ j (hj : j < 8) w, _) := fun j hj w => index_v e w j hj
 have v16 : (vaA e).size = 16 := by unfold vaA; rw [List.size_toArray, flat_len]; simp
 have hrv := fun (W : World) b => range_va (w := W) (b := b) (e := e)
 have HRV : Hid (∀ (W : World) b, _ → _) := hrv
 have x17 := stC_size (some e)
 generalize stC (some e) = xa at *
 generalize vaA e = va at *
 have H0 : Hid (FcAt w xa (fillT e 0) (((w.alloc (.cells xa 220)).alloc (.cells (fcA false zeroF) 76)).alloc (.cells (fcA true (fillT e 0)) 76))) := by
  obtain ⟨k0, k1, k2, kb⟩ := laid3b (w := w) (o1 := .cells xa 220) (o2 := .cells (fcA false zeroF) 76) (o3 := .cells (fcA true (fillT e 0)) 76) (Below.refl _ _)
  exact ⟨k0, k1, k2, kb⟩
 have HR0 := HRV.out _ _ H0.out.s
 have HR : Hid (World.rangeAt _ _ _ _) := HR0
 clear HR0 hrv hd
 go_enter Tryz.func117, Tryz.ntmps117
 go_wp2_with (first
  | (refine wp_ldV rfl _ rfl rfl (by exact HR.out) v16 ?_))
 change Code.wp _ _ _ _ (((w.alloc (.cells xa 220)).alloc (.cells (fcA false zeroF) 76)).alloc (.cells (fcA true (fillT e 0)) 76))
 generalize ((w.alloc (.cells xa 220)).alloc (.cells (fcA false zeroF) 76)).alloc (.cells (fcA true (fillT e 0)) 76) = W0 at *
 go_loopw [11] (fun v11 wr => ∃ j : Nat, j ≤ 8 ∧ v11 = .int .i64 j ∧ Hid (FcAt w xa (fillT e j) wr)) (fun v11 _ => 8 - (intOf v11).toNat)
 case atStart => exact ⟨0, Nat.zero_le _, rfl, H0.out⟩
 case round =>
  obtain ⟨j, hj, rfl, hq⟩ := hrel
  clear H0 HR
  by_cases hjlt : j < 8
  ·have hix := HIX.out j hjlt
   have hji : (j : Int) < 8 := by omega
   have hme : ∀ w, (method 587 133 dv "Tell").run Tryz.prog w = .ok (325, dv) w := fun w => by kernel_rfl
   have kb := below_alloc1 wr (.cells #[.int .i16 (e ⟨j, hjlt⟩).a, .int .i16 (e ⟨j, hjlt⟩).b] 131)
   have h1 := hq.out.call kb
   have HC := HTL.out _ j hjlt h1.b
   have H1 : Hid (FcAt w xa (fillT e j) _) := h1
   clear kb h1
   go_wp2_with fail
   refine HC.mono ?_
   rintro r w1 ⟨rfl, b1⟩
   have h2 := H1.out.call b1
   obtain ⟨x, hxj⟩ : ∃ x, (fillT e j)[j]? = some x := ⟨_, List.getElem?_eq_getElem (by rw [fillT_len _ hj]; omega)⟩
   have y0 := cell_of h2.x _ (stA_get (fun v : Int × Int => .int .i64 v.1) (fun v : Int × Int => .int .i64 v.2) hxj).1
   have y1 := cell_of h2.x _ (stA_get (fun v : Int × Int => .int .i64 v.1) (fun v : Int × Int => .int .i64 v.2) hxj).2
   have f0 := frozen_of h2.x (1 + j * 2)
   have f1 := frozen_of h2.x (1 + j * 2 + 1)
   have A3 : Hid (FcAt w xa (fillT e (j + 1)) ((w1.setCell ⟨w.heap.size + 1 + 1, 1 + j * 2, none⟩ (.int .i64 (vTell (e ⟨j, hjlt⟩)).1)).setCell ⟨w.heap.size + 1 + 1, 1 + j * 2 + 1, none⟩ (.int .i64 (vTell (e ⟨j, hjlt⟩)).2))) := by
    unfold Hid; rw [← fillT_set e hjlt]; exact h2.set (by rw [fillT_len _ hj]; omega) _
   clear hxj h2 b1 HC H1 hix
   go_wp2_with fail
   exact ⟨⟨j + 1, by omega, by go_num, A3⟩, by simp [intOf]; omega⟩
  ·obtain rfl : j = 8 := by omega
   have hx := hq.out.x
   have f17 := fcC_size (some e)
   have f1o := fcC_one (some e)
   have e8 : fcA true (fillT e 8) = fcC (some e) := by rw [fillT_end]; rfl
   rw [e8] at hx
   generalize hfa : fcC (some e) = fa at *
   have HFA : Hid (_ = fa) := hfa
   have HX : Hid (_ = _) := hx
   have hr : Hid (_ = _) := setCells_whole hq.out.z (d := fa) (by rw [f17]; rfl)
   have HB : Hid (Below w.heap.size w _) := setCells_below (b := w.heap.size + 1) (by omega) fa.toList 0 w _ hq.out.b
   have HTH : Hid (World.there _ _ _ _) := there_of hq.out.z
   clear hfa hx e8 hj hjlt
   go_wp2_with (first
    | (refine wp_ldF rfl _ rfl rfl HX.out f17 ?_)
    | (refine wp_stF rfl _ _ rfl rfl rfl HTH.out f17 f1o ?_))
   refine bodyPost_ret (results_fc Tryz.results117 _ _ rfl hr.out f17) rfl ⟨by rw [HFA.out], HB.out⟩
end WI
end Go.Proofs.YtiopfihjmkfdmaaGreatDoor
namespace Go.Proofs.YtiopfihjmkfdmaaGreatDoor
namespace WI
open Go.RowKit
set_option maxRecDepth 100000
set_option maxHeartbeats 1000000
theorem info17l (s : ST) : (Tryz.prog.info? 220).map (·.size) = some (stC s).toList.length := by rw [infoSt, stC_len]
structure PointAt (C : Cx) (F : Fd) (wa xa : Array Value) (k : Nat) (W : World) : Prop where
 o : W.heap[k]? = some (.cells wa 217)
 x : W.heap[k + 1]? = some (.cells xa 220)
 f : W.heap[C.fb]? = some (.cells #[.slice (some ⟨C.gf, 0, none⟩) F.1.length C.cf, .slice (some ⟨C.gs, 0, none⟩) F.2.length C.cs] 215)
theorem AnAt.pointS {C : Cx} {π : Par} {T : Tab} {F : Fd} {w : World} (h : AnAt C π T F w) {p : Nat} {f u : ST} (hp : F.1[p]? = some f) {s : ST} (hu : Sp.jn (Dm π) f s = u) (hs : Sp.Wf (Kr π) s) :
  AnAt C π T (Sp.tell (Dm π) F (Sp.telP (Dm π) (p : Int) s)) (w.setCells C.gf (p * 17) (stC u).toList) ∧ AKeep C w (w.setCells C.gf (p * 17) (stC u).toList) := by
 cases s with
 | some e => exact h.point hp hu (hs e rfl)
 | none =>
  have hu' : u = f := by rw [← hu]; cases f <;> rfl
  subst hu'
  obtain ⟨n1, n2, n3, n4, n5, n6⟩ := h.ne
  obtain ⟨es, cl, hm, hE⟩ := h.memo
  have hk : AKeep C w (w.setCells C.gf (p * 17) (stC u).toList) :=
   ⟨setCells_below h.bgf _ _ _ _ (Below.refl _ _), fun k _ k1 _ _ => setCells_other _ _ _ _ k1⟩
  refine ⟨⟨(setCells_other _ _ _ _ n1).trans h.hfb, ?_, (setCells_other _ _ _ _ (Ne.symm n3)).trans h.hgs, ⟨es, cl, (setCells_other _ _ _ _ n4).trans hm, hE⟩, h.does.below hk.below, h.turns.below hk.below h.big, h.big, h.bfb, h.bgf, h.bgs, h.bm, h.wfF⟩, hk⟩
  have hpl : p < F.1.length := (List.getElem?_eq_some_iff.1 hp).1
  obtain ⟨c', h1, h2, h3, h4⟩ := setCells_block (stC u).toList (p * 17) w (factCells F.1).toArray h.hgf (by
   rw [stC_len, List.size_toArray]
   unfold factCells
   rw [chunk_len stC_len]
   have : (p + 1) * 17 ≤ F.1.length * 17 := Nat.mul_le_mul_right _ hpl
   omega)
  rw [h1]
  have e : c' = (factCells F.1).toArray := by
   refine Array.ext_getElem? fun i => ?_
   by_cases hi : p * 17 ≤ i ∧ i < p * 17 + 17
   ·have h5 := h3 (i - p * 17) (by rw [stC_len]; omega)
    rw [show p * 17 + (i - p * 17) = i by omega] at h5
    rw [h5, List.getElem?_toArray]
    have h6 : (F.1.flatMap fun s => (stC s).toList)[p * 17 + (i - p * 17)]? = (stC u).toList[i - p * 17]? := chunk_get stC_len F.1 p u (i - p * 17) hp (by omega)
    rw [show p * 17 + (i - p * 17) = i by omega] at h6
    exact h6.symm
   ·rw [h4 i (by rw [stC_len]; omega)]
  rw [e]
  rfl
theorem point_told (C : Cx) (π : Par) (T : Tab) (F : Fd) (w : World) (h : AnAt C π T F w) (p : Nat) (f u : ST) (hp : F.1[p]? = some f) (s : ST) (hu : Sp.jn (Dm π) f s = u) (he : Sp.Wf (Kr π) s) :
  Calls Tryz.prog 84 #[.agg (wk C true), .int .i64 (p : Nat), .agg (stC s)] w fun r w' => r = .returned (.tuple #[]) ∧ AnAt C π T (Sp.tell (Dm π) F (Sp.telP (Dm π) (p : Int) s)) w' ∧ AKeep C w w' := by
 have hpl : p < F.1.length := (List.getElem?_eq_some_iff.1 hp).1
 have hpl' : ((p : Nat) : Int) < ((F.1.length : Nat) : Int) := by omega
 have hw7 : (wk C true)[7]? = some (.pointer (some ⟨C.fb, 0, none⟩)) := rfl
 have hws : (wk C true).size = 8 := rfl
 have HJ : Hid (∀ W, Does C.base π C.dv W → Calls _ _ _ W _) := fun W hd => jn_calls (B := C.base) (π := π) C.dv C.dom C.delay C.narrow C.unroll C.th C.m (some ⟨C.fb, 0, none⟩) f s u W hd hu (h.wfF f (List.mem_of_getElem? hp)) he
 have hwd : wkA C.dv C.dom C.delay C.narrow C.unroll C.th C.m (some ⟨C.fb, 0, none⟩) = wk C true := rfl
 rw [hwd] at HJ
 clear hwd
 generalize wk C true = wa at *
 have hx17 : (stC s).size = 17 := stC_size _
 have HX17 : Hid (_ = _) := info17l s
 generalize hxa : stC s = xa at *
 have b0 : Below w.heap.size w ((w.alloc (.cells wa 217)).alloc (.cells xa 220)).drew := ((below_alloc1 w _).alloc (by simp) _).drew
 have HA : Hid (AnAt C π T F ((w.alloc (.cells wa 217)).alloc (.cells xa 220)).drew) := h.call b0
 have HK : Hid (AKeep C w ((w.alloc (.cells wa 217)).alloc (.cells xa 220)).drew) := AKeep.of_below b0 h.le
 have H0 : Hid (PointAt C F wa xa w.heap.size ((w.alloc (.cells wa 217)).alloc (.cells xa 220)).drew) := ⟨heap_alloc_old (heap_alloc_new w _), by rw [show w.heap.size + 1 = (w.alloc (.cells wa 217)).heap.size by simp]; exact heap_alloc_new _ _, HA.out.hfb⟩
 have d7 := cell_of H0.out.o 7 hw7
 have d7' : ((w.alloc (.cells wa 217)).alloc (.cells xa 220)).cell? ⟨w.heap.size, 7, none⟩ = some (.pointer (some ⟨C.fb, 0, none⟩)) := d7
 have HN : Hid (AnAt C π T F w) := h
 have HP : Hid (F.1[p]? = some f) := hp
 have HU : Hid (Sp.jn (Dm π) f s = u) := hu
 have hlt := h.lt
 have hne := h.ne
 clear h hp hu b0 d7
 obtain ⟨o, ho⟩ : ∃ o, p * 17 = o := ⟨_, rfl⟩
 have HR : Hid (∀ W, AnAt C π T F W → W.rangeAt C.gf o (stC f).toList ∧ W.there C.gf o 17 ∧ (AnAt C π T (Sp.tell (Dm π) F (Sp.telP (Dm π) (p : Int) s)) (W.setCells C.gf o (stC u).toList) ∧ AKeep C W (W.setCells C.gf o (stC u).toList))) := fun W hW => by rw [← ho]; exact ⟨hW.fact HP.out, hW.factThere hpl, hW.pointS HP.out HU.out he⟩
 go_enter Tryz.func84, Tryz.ntmps84
 go_wp2_with fail
 generalize (w.alloc (.cells wa 217)).alloc (.cells xa 220) = W at *
 refine wp_region_held_drew (S := fun w' : World => PointAt C F wa xa w.heap.size w') (by kernel_rfl) H0.out (fun hHeld => ?_)
 refine tky 15 rfl (yieldsIf_load_mid (by rfl) _ _ rfl _ _ rfl (xa).toList _ (fun w' h => range_of h.x) Tryz.underlying220 rfl (by rw [infoSt, Array.length_toList, hx17])) hHeld ?_
 simp only [Act.put]
 refine tky 6 rfl (yieldsIf_load_mid (by rfl) _ _ rfl _ _ rfl (wa).toList _ (fun w' h => range_of h.o) Tryz.underlying217 rfl (by rw [infoWk, Array.length_toList, hws])) hHeld ?_
 simp only [Act.put]
 refine tk 0 (.pointer (some ⟨w.heap.size, 7, none⟩)) rfl (fun w' h => by go_simp) hHeld ?_
 simp only [Act.put]
 refine tk 1 (.pointer (some ⟨C.fb, 0, none⟩)) rfl (fun w' h => by have d := cell_of h.o 7 hw7; go_simp) hHeld ?_
 simp only [Act.put]
 refine tk 2 (.pointer (some ⟨C.fb, 0, none⟩)) rfl (fun w' h => by go_simp) hHeld ?_
 simp only [Act.put]
 refine tk 3 (.pointer (some ⟨C.fb, 0, none⟩)) rfl (fun w' h => by go_simp) hHeld ?_
 simp only [Act.put]
 refine tk 4 (.slice (some ⟨C.gf, 0, none⟩) F.1.length C.cf) rfl (fun w' h => by have d := cell_of h.f 0 rfl; go_simp) hHeld ?_
 simp only [Act.put]
 refine tk 5 (.int .i64 (p : Nat)) rfl (fun w' h => by go_simp) hHeld ?_
 simp only [Act.put]
 refine tk 7 (.pointer (some ⟨w.heap.size, 7, none⟩)) rfl (fun w' h => by go_simp) hHeld ?_
 simp only [Act.put]
 refine tk 8 (.pointer (some ⟨C.fb, 0, none⟩)) rfl (fun w' h => by have d := cell_of h.o 7 hw7; go_simp) hHeld ?_
 simp only [Act.put]
 refine tk 9 (.pointer (some ⟨C.fb, 0, none⟩)) rfl (fun w' h => by go_simp) hHeld ?_
 simp only [Act.put]
 refine tk 10 (.pointer (some ⟨C.fb, 0, none⟩)) rfl (fun w' h => by go_simp) hHeld ?_
 simp only [Act.put]
 refine tk 11 (.slice (some ⟨C.gf, 0, none⟩) F.1.length C.cf) rfl (fun w' h => by have d := cell_of h.f 0 rfl; go_simp) hHeld ?_
 simp only [Act.put]
 refine tk 12 (.int .i64 (p : Nat)) rfl (fun w' h => by go_simp) hHeld ?_
 simp only [Act.put]
 refine tk 13 (.pointer (some ⟨C.gf, o, none⟩)) rfl (fun w' h => by go_simp) hHeld ?_
 simp only [Act.put]
 refine rd1 14 fun K hK => ?_
 simp only [gsb, gsa, Array.toArray_toList]
 rw [if_pos (by rfl)]
 refine rd_st _ rfl rfl (HR.out _ HA.out).1 (stC_size f) ?_
 simp only [Act.put]
 refine hK.out _ _ hHeld (fun hHeld => ?_)
 clear hK K
 refine rd1 16 fun K hK => ?_
 simp only [gsb, gsa]
 go_simp
 refine (HJ.out _ HA.out.does).mono ?_
 rintro r w1 ⟨rfl, b1⟩
 go_wp2_with fail
 have HA1 : Hid (AnAt C π T F w1) := HA.out.call b1
 have HK1 : Hid (AKeep C w w1) := HK.out.more b1 HN.out.le
 have hs1 : PointAt C F wa xa w.heap.size w1 := ⟨(b1.block _ (heap_lt hHeld.o)).trans hHeld.o, (b1.block _ (heap_lt hHeld.x)).trans hHeld.x, (b1.block _ (heap_lt hHeld.f)).trans hHeld.f⟩
 refine hK.out _ _ hs1 (fun hHeld => ?_)
 clear hK K hs1 b1
 refine tk 17 (.pointer (some ⟨C.gf, o, none⟩)) rfl (fun w' h => by go_simp) hHeld ?_
 simp only [Act.put]
 refine rd1 18 fun K hK => ?_
 simp only [gsb, gsa]
 rw [if_pos (by rfl)]
 refine wr_st _ _ rfl rfl rfl (HR.out _ HA1.out).2.1 (stC_size u) (stC_one u) ?_
 refine hK.out _ _ ⟨(setCells_other _ _ _ _ (by omega)).trans hHeld.o, (setCells_other _ _ _ _ (by omega)).trans hHeld.x, (setCells_other _ _ _ _ hne.1).trans hHeld.f⟩ (fun _ => ?_)
 clear hK K
 refine wpAnyH_done (by kernel_rfl) ?_ _
 have R : Hid (_ ∧ _) := (HR.out _ HA1.out).2.2
 go_wp2_with fail
 go_returns
 exact ⟨rfl, R.out.1, HK1.out.trans R.out.2⟩
theorem point_quiet (C : Cx) (p : Int) (s : ST) (w : World) :
  Calls Tryz.prog 84 #[.agg (wk C false), .int .i64 p, .agg (stC s)] w fun e w' => e = .returned (.tuple #[]) ∧ Below w.heap.size w w' := by
 have hw7 : (wk C false)[7]? = some (.pointer none) := rfl
 generalize wk C false = wa at *
 generalize stC s = xa at *
 have hb : ((w.alloc (.cells wa 217)).alloc (.cells xa 220)).heap[w.heap.size]? = some (.cells wa 217) := heap_alloc_old (heap_alloc_new w _)
 have d7 := cell_of hb 7 hw7
 clear hb
 go_enter Tryz.func84, Tryz.ntmps84
 go_wp2_with fail
 go_returns
 exact ⟨rfl, by go_grown⟩
theorem pointS_calls (C : Cx) (π : Par) (T : Tab) (F : Fd) (b : Bool) (w : World) (h : AnAt C π T F w) (p : Int) (s : ST) (hs : Sp.Wf (Kr π) s) (hr : b = true → 0 ≤ p ∧ p.toNat < F.1.length) :
  Calls Tryz.prog 84 #[.agg (wk C b), .int .i64 p, .agg (stC s)] w fun r w' => r = .returned (.tuple #[]) ∧ AnAt C π T (told π b F (Sp.telP (Dm π) p s)) w' ∧ AKeep C w w' := by
 cases b with
 | false =>
  refine (point_quiet C p s w).mono ?_
  rintro e w' ⟨rfl, k⟩
  exact ⟨rfl, h.call k, AKeep.of_below k h.le⟩
 | true =>
  obtain ⟨h1, h2⟩ := hr rfl
  obtain ⟨n, rfl⟩ : ∃ n : Nat, p = (n : Int) := ⟨p.toNat, by omega⟩
  exact point_told C π T F w h n _ _ (List.getElem?_eq_getElem (by simpa using h2)) s rfl hs
theorem point_calls (C : Cx) (π : Par) (T : Tab) (F : Fd) (b : Bool) (w : World) (h : AnAt C π T F w) (p : Int) (e : Fin 8 → Sp.Iv) (he : ∀ k, Wv (e k)) (hr : Rng b F [.point p e]) :
  Calls Tryz.prog 84 #[.agg (wk C b), .int .i64 p, .agg (stC (some e))] w fun r w' => r = .returned (.tuple #[]) ∧ AnAt C π T (told π b F [.point p e]) w' ∧ AKeep C w w' :=
 pointS_calls C π T F b w h p (some e) (Sp.Wf.some he) fun hb => hr hb _ (List.mem_singleton.2 rfl)
end WI
end Go.Proofs.YtiopfihjmkfdmaaGreatDoor
