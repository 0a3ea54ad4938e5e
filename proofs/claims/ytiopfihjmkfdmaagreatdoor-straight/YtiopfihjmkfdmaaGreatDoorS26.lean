import Derived.Test.YtiopfihjmkfdmaaGreatDoorS25
import Derived.Laws.MakeOwn
import Derived.Test.YtiopfihjmkfdmaaGreatDoorS17
import Derived.Test.YtiopfihjmkfdmaaGreatDoorS23
import Derived.DeepKeys3
import Derived.Test.YtiopfihjmkfdmaaGreatDoorS24
namespace Go.Proofs.YtiopfihjmkfdmaaGreatDoor
namespace WI
open Go.RowKit
set_option maxRecDepth 100000
set_option maxHeartbeats 2000000
theorem made_chunk {α : Type} {f : α → List Value} {k n : Nat} {a : α} {z : Array Value} (hz : f a = z.toList) (hk : ∀ a, (f a).length = k) (hk0 : 0 < k) : madeCells z (n * k) = ((List.replicate n a).flatMap f).toArray := by
 have hs : z.size = k := by rw [← Array.length_toList, ← hz, hk]
 refine Array.ext_getElem? fun i => ?_
 have er : ((List.replicate n a).flatMap f).toArray[i]? = ((List.replicate n a).flatMap f)[i]? := List.getElem?_toArray
 rw [er]
 by_cases hi : i < n * k
 ·have e : i = i / k * k + i % k := by rw [Nat.mul_comm]; exact (Nat.div_add_mod i k).symm
  have h1 : i / k < n := Nat.div_lt_of_lt_mul (by rw [Nat.mul_comm]; exact hi)
  have h2 : i % k < k := Nat.mod_lt _ hk0
  have h3 := chunk_get hk (List.replicate n a) (i / k) a (i % k) (by rw [List.getElem?_replicate, if_pos h1]) h2
  rw [← e] at h3
  rw [h3, hz]
  unfold madeCells
  rw [Array.getElem?_map, Array.getElem?_range, if_pos hi]
  simp only [Option.map_some]
  rw [hs, Array.getElem?_toList, getElem!_pos z (i % k) (by omega), Array.getElem?_eq_getElem (by omega)]
 ·rw [Array.getElem?_eq_none (by rw [size_madeCells]; omega), List.getElem?_eq_none (by rw [chunk_len hk, List.length_replicate]; omega)]
def fcCells (fs : List ST) : List Value := fs.flatMap fun s => (fcC s).toList
theorem fcC_len (s : ST) : (fcC s).toList.length = 17 := by rw [Array.length_toList]; exact fcC_size s
theorem infoF3 : (Tryz.prog.info? 76).map (fun i => (i.zero, i.size, i.bytes)) = some (some (.agg (fcC none)), 17, 136) := by kernel_rfl
theorem make_facts (n : Nat) (hn : n ≤ 1000000) (w : World) : (Instr.makeSlice 62 (.int .i64 (n : Nat)) (.int .i64 (n : Nat))).run Tryz.prog w = .ok (.slice (some ⟨w.heap.size, 0, none⟩) n n) (w.alloc (.cells (fcCells (List.replicate n none)).toArray 76)) := by
 obtain ⟨i, hi, hz⟩ := Option.map_eq_some_iff.1 infoF3
 simp only [Prod.mk.injEq] at hz
 obtain ⟨h1, h2, h3⟩ := hz
 have := run_make (P := Tryz.prog) w 62 76 i _ Tryz.underlying62 hi h1 .i64 .i64 n n (by omega) (Int.le_refl _) (by rw [h3]; omega) (by omega)
 rw [this, h2]
 simp only [Int.toNat_natCast]
 congr 4
 exact made_chunk (f := fun s => (fcC s).toList) (a := none) (z := fcC none) rfl fcC_len (by omega)
def mixF (fs : List ST) (j : Nat) : List ST := fs.take j ++ List.replicate (fs.length - j) none
theorem mixF_len (fs : List ST) {j : Nat} (h : j ≤ fs.length) : (mixF fs j).length = fs.length := by unfold mixF; simp; omega
theorem mixF_set (fs : List ST) {j : Nat} (h : j < fs.length) {s : ST} (hs : fs[j]? = some s) : (mixF fs j).set j s = mixF fs (j + 1) := by
 have hl : (fs.take j).length = j := by simp; omega
 have hk := List.getElem?_eq_some_iff.1 hs
 unfold mixF
 rw [List.set_append_right _ _ (by omega), hl, Nat.sub_self, show fs.length - j = (fs.length - (j + 1)) + 1 by omega, List.replicate_succ, List.set_cons_zero, List.take_succ_eq_append_getElem hk.1, hk.2, List.append_assoc]
 rfl
theorem mixF_none (fs : List ST) {j : Nat} (h : j < fs.length) (hs : fs[j]? = some none) : mixF fs (j + 1) = mixF fs j := by
 have hl : (fs.take j).length = j := by simp; omega
 have hk := List.getElem?_eq_some_iff.1 hs
 unfold mixF
 rw [show fs.length - j = (fs.length - (j + 1)) + 1 by omega, List.replicate_succ, List.take_succ_eq_append_getElem hk.1, hk.2, List.append_assoc]
 rfl
theorem mixF_end (fs : List ST) : mixF fs fs.length = fs := by unfold mixF; simp
structure FsAt (B : Nat) (π : Par) (dv : Value) (gf : Nat) (w : World) (fs l : List ST) (W : World) : Prop where
 d : Does B π dv W
 g : W.heap[gf]? = some (.cells (factCells fs).toArray 220)
 x : W.heap[w.heap.size]? = some (.cells (fcCells l).toArray 76)
 b : Below w.heap.size w W
theorem FsAt.call {B : Nat} {π : Par} {dv : Value} {gf : Nat} {w : World} {fs l : List ST} {W W' : World} (h : FsAt B π dv gf w fs l W) (k : Below W.heap.size W W') : FsAt B π dv gf w fs l W' :=
 ⟨h.d.below (k.mono h.d.size), (k.block _ (heap_lt h.g)).trans h.g, (k.block _ (heap_lt h.x)).trans h.x, h.b.trans (k.mono h.b.size)⟩
theorem FsAt.set {B : Nat} {π : Par} {dv : Value} {gf : Nat} {w : World} {fs l : List ST} {W : World} (h : FsAt B π dv gf w fs l W) (hB : B ≤ w.heap.size) (hg : gf < w.heap.size) {j : Nat} (hj : j < l.length) (s : ST) : FsAt B π dv gf w fs (l.set j s) (W.setCells w.heap.size (j * 17) (fcC s).toList) := by
 have hb : Below w.heap.size w (W.setCells w.heap.size (j * 17) (fcC s).toList) := setCells_below (b := w.heap.size) (Nat.le_refl _) _ _ _ _ h.b
 have hb' : Below w.heap.size W (W.setCells w.heap.size (j * 17) (fcC s).toList) := setCells_below (b := w.heap.size) (Nat.le_refl _) _ _ _ _ (Below.refl _ _)
 refine ⟨h.d.below (hb'.mono hB), (setCells_other _ _ _ _ (by omega)).trans h.g, ?_, hb⟩
 obtain ⟨c', h1, h2, h3, h4⟩ := setCells_block (fcC s).toList (j * 17) W (fcCells l).toArray h.x (by
  rw [fcC_len, List.size_toArray]
  unfold fcCells
  rw [chunk_len fcC_len]
  have : (j + 1) * 17 ≤ l.length * 17 := Nat.mul_le_mul_right _ hj
  omega)
 rw [h1]
 congr 2
 refine Array.ext_getElem? fun i => ?_
 have e2 : (fcCells (l.set j s)).toArray[i]? = ((l.set j s).flatMap fun s => (fcC s).toList)[i]? := List.getElem?_toArray
 rw [e2, chunk_set fcC_len l j s i hj]
 by_cases hi : j * 17 ≤ i ∧ i < j * 17 + 17
 ·rw [if_pos hi]
  have := h3 (i - j * 17) (by rw [fcC_len]; omega)
  rw [show j * 17 + (i - j * 17) = i by omega] at this
  exact this
 ·rw [if_neg hi, h4 i (by rw [fcC_len]; omega), List.getElem?_toArray]
  rfl
theorem FsAt.there {B : Nat} {π : Par} {dv : Value} {gf : Nat} {w : World} {fs l : List ST} {W : World} (h : FsAt B π dv gf w fs l W) {j : Nat} (hj : j < l.length) : W.there w.heap.size (j * 17) 17 := by
 intro i hi
 refine ⟨?_, frozen_of h.x _⟩
 have hl : j * 17 + i < (fcCells l).toArray.size := by
  rw [List.size_toArray]
  unfold fcCells
  rw [chunk_len fcC_len]
  have : (j + 1) * 17 ≤ l.length * 17 := Nat.mul_le_mul_right _ hj
  omega
 rw [cell_of h.x _ (Array.getElem?_eq_getElem hl)]
 rfl
theorem state_range {w : World} {gf : Nat} {fs : List ST} (h : w.heap[gf]? = some (.cells (factCells fs).toArray 220)) {p : Nat} {f : ST} (hp : fs[p]? = some f) : w.rangeAt gf (p * 17) (stC f).toList := by
 intro j v hv
 have hj : j < 17 := by
  have := (List.getElem?_eq_some_iff.1 hv).1
  rw [stC_len] at this
  exact this
 refine cell_of h _ ?_
 rw [List.getElem?_toArray]
 show (fs.flatMap fun s => (stC s).toList)[p * 17 + j]? = some v
 rw [chunk_get stC_len fs p f j hp hj]
 exact hv
theorem wp_ldO {ops : Array Oper} {rest : List Oper} {op : Oper} {a : Act} {w : World} {Q : Exit → Act → World → Prop} (hgd : op.guard = none) (x : Operand) (ho : op.op = .load 220 x) {b o : Nat} {c : Array Value} (hx : a.eval x = .pointer (some ⟨b, o, none⟩)) (h : w.rangeAt b o c.toList) (hc : c.size = 17)
  (k : wpList Tryz.prog ops Q rest (a.put op.dst (.agg c)) w) : wpList Tryz.prog ops Q (op :: rest) a w := by
 refine wpList_load_mid hgd 220 x ho b o hx c.toList _ h Tryz.underlying220 rfl (by rw [infoSt]; simp [hc]) ?_
 simpa using k
theorem one_newF (w : World) (u : Array Value) (h : u.size = 17) :
  (w.alloc (.cells #[.bool false, .int .i16 0, .int .i16 0, .int .i16 0, .int .i16 0, .int .i16 0, .int .i16 0, .int .i16 0, .int .i16 0, .int .i16 0, .int .i16 0, .int .i16 0, .int .i16 0, .int .i16 0, .int .i16 0, .int .i16 0, .int .i16 0] 220)).heap[w.heap.size]? = some (.cells #[.bool false, .int .i16 0, .int .i16 0, .int .i16 0, .int .i16 0, .int .i16 0, .int .i16 0, .int .i16 0, .int .i16 0, .int .i16 0, .int .i16 0, .int .i16 0, .int .i16 0, .int .i16 0, .int .i16 0, .int .i16 0, .int .i16 0] 220) ∧
  ((w.alloc (.cells #[.bool false, .int .i16 0, .int .i16 0, .int .i16 0, .int .i16 0, .int .i16 0, .int .i16 0, .int .i16 0, .int .i16 0, .int .i16 0, .int .i16 0, .int .i16 0, .int .i16 0, .int .i16 0, .int .i16 0, .int .i16 0, .int .i16 0] 220)).setCells w.heap.size 0 u.toList).heap[w.heap.size]? = some (.cells u 220) ∧
  Below w.heap.size w ((w.alloc (.cells #[.bool false, .int .i16 0, .int .i16 0, .int .i16 0, .int .i16 0, .int .i16 0, .int .i16 0, .int .i16 0, .int .i16 0, .int .i16 0, .int .i16 0, .int .i16 0, .int .i16 0, .int .i16 0, .int .i16 0, .int .i16 0, .int .i16 0] 220)).setCells w.heap.size 0 u.toList) := by
 have a1 := heap_alloc_new w (.cells #[.bool false, .int .i16 0, .int .i16 0, .int .i16 0, .int .i16 0, .int .i16 0, .int .i16 0, .int .i16 0, .int .i16 0, .int .i16 0, .int .i16 0, .int .i16 0, .int .i16 0, .int .i16 0, .int .i16 0, .int .i16 0, .int .i16 0] 220)
 exact ⟨a1, setCells_whole a1 (by rw [h]; rfl), setCells_below (Nat.le_refl _) _ _ _ _ (below_alloc1 w _)⟩
theorem facts_calls {B : Nat} {π : Par} (dv : Value) (gf cf : Nat) (fs : List ST) (w : World) (hd : Does B π dv w) (hg : w.heap[gf]? = some (.cells (factCells fs).toArray 220)) (hw : ∀ s ∈ fs, Sp.Wf (Kr π) s) (hn : fs.length ≤ 1000000) :
  Calls Tryz.prog 85 #[.iface 133 dv, .slice (some ⟨gf, 0, none⟩) fs.length cf] w fun r w' => r = .returned (.slice (some ⟨w.heap.size, 0, none⟩) fs.length fs.length) ∧ w'.heap[w.heap.size]? = some (.cells (fcCells fs).toArray 76) ∧ Below w.heap.size w w' := by
 have hmk := make_facts fs.length hn
 have HFC : Hid (∀ W (e : Fin 8 → Sp.Iv), Does B π dv W → (∀ k, Wv (e k)) → Calls _ _ _ W _) := fun W e hW he => fact_calls (π := π) dv e W hW he
 have hgl := heap_lt hg
 have hB := hd.size
 have H0 : Hid (FsAt B π dv gf w fs (mixF fs 0) (w.alloc (.cells (fcCells (List.replicate fs.length none)).toArray 76))) := by
  have kb := below_alloc1 w (.cells (fcCells (List.replicate fs.length none)).toArray 76)
  exact ⟨hd.below (kb.mono hB), (kb.block _ hgl).trans hg, heap_alloc_new _ _, kb⟩
 have HW : Hid (∀ s ∈ fs, Sp.Wf (Kr π) s) := hw
 have hnl : (fs.length : Int) ≤ 1000000 := by omega
 clear hd hg hw
 go_enter Tryz.func85, Tryz.ntmps85
 go_wp2_with fail
 generalize w.alloc (.cells (fcCells (List.replicate fs.length none)).toArray 76) = W0 at *
 clear hmk
 go_loopw [13] (fun v13 wr => ∃ j : Nat, j ≤ fs.length ∧ v13 = .int .i64 j ∧ Hid (FsAt B π dv gf w fs (mixF fs j) wr)) (fun v13 _ => fs.length - (intOf v13).toNat)
 case atStart => exact ⟨0, Nat.zero_le _, rfl, H0.out⟩
 case round =>
  obtain ⟨j, hj, rfl, hq⟩ := hrel
  clear H0
  by_cases hjlt : j < fs.length
  ·obtain ⟨f, hf⟩ : ∃ f, fs[j]? = some f := ⟨_, List.getElem?_eq_getElem hjlt⟩
   have hji : ((j : Nat) : Int) < ((fs.length : Nat) : Int) := by omega
   have HRG : Hid (World.rangeAt _ _ _ _) := state_range hq.out.g hf
   have hwf := HW.out f (List.mem_of_getElem? hf)
   obtain ⟨xa, hxa⟩ : ∃ xa, xa = stC f := ⟨_, rfl⟩
   rw [← hxa] at HRG
   have x17 : xa.size = 17 := by rw [hxa]; exact stC_size f
   have x1 : xa.all (·.oneCell') = true := by rw [hxa]; exact stC_one f
   have hx0 : xa[0]? = some (.bool f.isSome) := by rw [hxa]; cases f <;> rfl
   obtain ⟨t1, t2, tb⟩ := one_newF wr xa x17
   have T1 : Hid (_ = _) := t1
   have T2 : Hid (_ = _) := t2
   have H2 : Hid (FsAt B π dv gf w fs (mixF fs j) _) := hq.out.call tb
   have c0 := cell_of t2 0 hx0
   have HXA : Hid (xa = stC f) := hxa
   have hjm : j * 17 < 9223372036854775807 := by omega
   clear t1 t2 tb hxa
   cases f with
   | none =>
    have hm : Hid (mixF fs (j + 1) = mixF fs j) := mixF_none fs hjlt hf
    go_wp2_with (first
     | (refine wp_ldO rfl _ rfl rfl HRG.out x17 ?_)
     | (refine wp_st rfl _ _ rfl rfl rfl (by exact T1.out) rfl x17 x1 ?_))
    exact ⟨⟨j + 1, by omega, by go_num, by rw [hm.out]; exact H2⟩, by simp [intOf]; omega⟩
   | some e =>
    have hm : Hid ((mixF fs j).set j (some e) = mixF fs (j + 1)) := mixF_set fs hjlt hf
    have hC := HFC.out _ e H2.out.d (hwf e rfl)
    rw [← HXA.out] at hC
    have HC : Hid (Calls _ _ _ _ _) := hC
    have f17 := fcC_size (some e)
    have f1o := fcC_one (some e)
    generalize hfa : fcC (some e) = fa at *
    have HFA : Hid (fcC (some e) = fa) := hfa
    clear hC hfa
    go_wp2_with (first
     | (refine wp_ldO rfl _ rfl rfl HRG.out x17 ?_)
     | (refine wp_st rfl _ _ rfl rfl rfl (by exact T1.out) rfl x17 x1 ?_)
     | (refine wp_ld rfl _ rfl rfl (by exact T2.out) x17 ?_))
    refine HC.out.mono ?_
    rintro r w1 ⟨rfl, b1⟩
    have h3 := H2.out.call b1
    have hlm : j < (mixF fs j).length := by rw [mixF_len fs hj]; exact hjlt
    have HTH : Hid (World.there _ _ _ _) := h3.there hlm
    have H4 : Hid (FsAt B π dv gf w fs (mixF fs (j + 1)) (w1.setCells w.heap.size (j * 17) fa.toList)) := by
     unfold Hid
     rw [← hm.out, ← HFA.out]
     exact h3.set hB hgl hlm (some e)
    clear h3 b1 HC H2 T1 T2 c0 HRG
    go_wp2_with (first
     | (refine wp_stF rfl _ _ rfl rfl rfl HTH.out f17 f1o ?_))
    exact ⟨⟨j + 1, by omega, by go_num, H4⟩, by simp [intOf]; omega⟩
  ·obtain rfl : j = fs.length := by omega
   have hx := hq.out.x
   rw [mixF_end] at hx
   have HX : Hid (_ = _) := hx
   have HB : Hid (Below w.heap.size w wr) := hq.out.b
   clear hx
   go_wp2_with fail
   go_ret
   exact ⟨rfl, HX.out, HB.out⟩
end WI
end Go.Proofs.YtiopfihjmkfdmaaGreatDoor
namespace Go.Proofs.YtiopfihjmkfdmaaGreatDoor
open Go.RowKit
set_option maxRecDepth 100000
set_option maxHeartbeats 2000000
theorem eqVal (a b : Int) (w : World) : (Op.equalIn 9998 73 (.agg #[.int .i64 a, .int .i64 b]) (.agg #[.int .i64 a, .int .i64 b])).run Tryz.prog w = .ok true w := by
 simp [go_sem]
theorem partV (xs : Array Value) (i : Nat) (a b : Int) (ha : xs[i * 2]? = some (.int .i64 a)) (hb : xs[i * 2 + 1]? = some (.int .i64 b)) (w : World) : (part 73 xs (i * 2)).run Tryz.prog w = .ok (.agg #[.int .i64 a, .int .i64 b]) w := by
 have h1 : i * 2 < xs.size := (Array.getElem?_eq_some_iff.1 ha).1
 have h2 : i * 2 + 1 < xs.size := (Array.getElem?_eq_some_iff.1 hb).1
 have e : xs.extract (i * 2) (i * 2 + 2) = #[.int .i64 a, .int .i64 b] := by
  refine Array.ext_getElem? fun j => ?_
  match j with
  | 0 => rw [Array.getElem?_extract, if_pos (by omega)]; exact ha
  | 1 => rw [Array.getElem?_extract, if_pos (by omega)]; exact hb
  | j + 2 => rw [Array.getElem?_extract, if_neg (by omega)]; simp
 simp [part, go_sem, e]
theorem eqVals (a0 b0 a1 b1 a2 b2 a3 b3 a4 b4 a5 b5 a6 b6 a7 b7 : Int) (w : World) : (Op.equalIn 9999 74 (.agg #[.int .i64 a0, .int .i64 b0, .int .i64 a1, .int .i64 b1, .int .i64 a2, .int .i64 b2, .int .i64 a3, .int .i64 b3, .int .i64 a4, .int .i64 b4, .int .i64 a5, .int .i64 b5, .int .i64 a6, .int .i64 b6, .int .i64 a7, .int .i64 b7]) (.agg #[.int .i64 a0, .int .i64 b0, .int .i64 a1, .int .i64 b1, .int .i64 a2, .int .i64 b2, .int .i64 a3, .int .i64 b3, .int .i64 a4, .int .i64 b4, .int .i64 a5, .int .i64 b5, .int .i64 a6, .int .i64 b6, .int .i64 a7, .int .i64 b7])).run Tryz.prog w = .ok true w := by
 have hi : ∃ i, Tryz.prog.info? 73 = some i := by
  cases h : Tryz.prog.info? 73 with
  | some i => exact ⟨i, rfl⟩
  | none => exact absurd (show (Tryz.prog.info? 73).isSome = true by kernel_rfl) (by rw [h]; simp)
 obtain ⟨i0, hi⟩ := hi
 rw [run_equalIn_array w 9998 _ _ Tryz.underlying74 hi, show Tryz.prog.cellsOf 73 = 2 by kernel_rfl, show List.range 8 = [0, 1, 2, 3, 4, 5, 6, 7] from rfl]
 have p0 := partV #[.int .i64 a0, .int .i64 b0, .int .i64 a1, .int .i64 b1, .int .i64 a2, .int .i64 b2, .int .i64 a3, .int .i64 b3, .int .i64 a4, .int .i64 b4, .int .i64 a5, .int .i64 b5, .int .i64 a6, .int .i64 b6, .int .i64 a7, .int .i64 b7] 0 a0 b0 rfl rfl
 have p1 := partV #[.int .i64 a0, .int .i64 b0, .int .i64 a1, .int .i64 b1, .int .i64 a2, .int .i64 b2, .int .i64 a3, .int .i64 b3, .int .i64 a4, .int .i64 b4, .int .i64 a5, .int .i64 b5, .int .i64 a6, .int .i64 b6, .int .i64 a7, .int .i64 b7] 1 a1 b1 rfl rfl
 have p2 := partV #[.int .i64 a0, .int .i64 b0, .int .i64 a1, .int .i64 b1, .int .i64 a2, .int .i64 b2, .int .i64 a3, .int .i64 b3, .int .i64 a4, .int .i64 b4, .int .i64 a5, .int .i64 b5, .int .i64 a6, .int .i64 b6, .int .i64 a7, .int .i64 b7] 2 a2 b2 rfl rfl
 have p3 := partV #[.int .i64 a0, .int .i64 b0, .int .i64 a1, .int .i64 b1, .int .i64 a2, .int .i64 b2, .int .i64 a3, .int .i64 b3, .int .i64 a4, .int .i64 b4, .int .i64 a5, .int .i64 b5, .int .i64 a6, .int .i64 b6, .int .i64 a7, .int .i64 b7] 3 a3 b3 rfl rfl
 have p4 := partV #[.int .i64 a0, .int .i64 b0, .int .i64 a1, .int .i64 b1, .int .i64 a2, .int .i64 b2, .int .i64 a3, .int .i64 b3, .int .i64 a4, .int .i64 b4, .int .i64 a5, .int .i64 b5, .int .i64 a6, .int .i64 b6, .int .i64 a7, .int .i64 b7] 4 a4 b4 rfl rfl
 have p5 := partV #[.int .i64 a0, .int .i64 b0, .int .i64 a1, .int .i64 b1, .int .i64 a2, .int .i64 b2, .int .i64 a3, .int .i64 b3, .int .i64 a4, .int .i64 b4, .int .i64 a5, .int .i64 b5, .int .i64 a6, .int .i64 b6, .int .i64 a7, .int .i64 b7] 5 a5 b5 rfl rfl
 have p6 := partV #[.int .i64 a0, .int .i64 b0, .int .i64 a1, .int .i64 b1, .int .i64 a2, .int .i64 b2, .int .i64 a3, .int .i64 b3, .int .i64 a4, .int .i64 b4, .int .i64 a5, .int .i64 b5, .int .i64 a6, .int .i64 b6, .int .i64 a7, .int .i64 b7] 6 a6 b6 rfl rfl
 have p7 := partV #[.int .i64 a0, .int .i64 b0, .int .i64 a1, .int .i64 b1, .int .i64 a2, .int .i64 b2, .int .i64 a3, .int .i64 b3, .int .i64 a4, .int .i64 b4, .int .i64 a5, .int .i64 b5, .int .i64 a6, .int .i64 b6, .int .i64 a7, .int .i64 b7] 7 a7 b7 rfl rfl
 simp only [Op.eqItems, Sem.run_bind, p0, p1, p2, p3, p4, p5, p6, p7, eqVal, Result.andThen_ok, Bool.not_true, Bool.false_eq_true, if_false, Sem.run_pure]
theorem eqFact (r : Bool) (a0 b0 a1 b1 a2 b2 a3 b3 a4 b4 a5 b5 a6 b6 a7 b7 : Int) (w : World) : (Op.equalIn 10000 76 (.agg #[.bool r, .int .i64 a0, .int .i64 b0, .int .i64 a1, .int .i64 b1, .int .i64 a2, .int .i64 b2, .int .i64 a3, .int .i64 b3, .int .i64 a4, .int .i64 b4, .int .i64 a5, .int .i64 b5, .int .i64 a6, .int .i64 b6, .int .i64 a7, .int .i64 b7]) (.agg #[.bool r, .int .i64 a0, .int .i64 b0, .int .i64 a1, .int .i64 b1, .int .i64 a2, .int .i64 b2, .int .i64 a3, .int .i64 b3, .int .i64 a4, .int .i64 b4, .int .i64 a5, .int .i64 b5, .int .i64 a6, .int .i64 b6, .int .i64 a7, .int .i64 b7])).run Tryz.prog w = .ok true w := by
 have h := eqVals a0 b0 a1 b1 a2 b2 a3 b3 a4 b4 a5 b5 a6 b6 a7 b7
 simp [go_sem, h]
theorem arrPairs {l : List (Int × Int)} (h : l.length = 8) : ∃ a0 b0 a1 b1 a2 b2 a3 b3 a4 b4 a5 b5 a6 b6 a7 b7, ∀ r, WI.fcA r l = #[.bool r, .int .i64 a0, .int .i64 b0, .int .i64 a1, .int .i64 b1, .int .i64 a2, .int .i64 b2, .int .i64 a3, .int .i64 b3, .int .i64 a4, .int .i64 b4, .int .i64 a5, .int .i64 b5, .int .i64 a6, .int .i64 b6, .int .i64 a7, .int .i64 b7] := by
 match l, h with
 | [(a0, b0), (a1, b1), (a2, b2), (a3, b3), (a4, b4), (a5, b5), (a6, b6), (a7, b7)], _ => exact ⟨a0, b0, a1, b1, a2, b2, a3, b3, a4, b4, a5, b5, a6, b6, a7, b7, fun _ => rfl⟩
theorem eqFc (s : WI.ST) (w : World) : (Op.equalIn 10000 76 (.agg (WI.fcC s)) (.agg (WI.fcC s))).run Tryz.prog w = .ok true w := by
 obtain ⟨a0, b0, a1, b1, a2, b2, a3, b3, a4, b4, a5, b5, a6, b6, a7, b7, e⟩ := arrPairs (WI.toldV_len s)
 unfold WI.fcC
 rw [e]
 exact eqFact _ a0 b0 a1 b1 a2 b2 a3 b3 a4 b4 a5 b5 a6 b6 a7 b7 w
end Go.Proofs.YtiopfihjmkfdmaaGreatDoor
namespace Go.Proofs.YtiopfihjmkfdmaaGreatDoor
namespace WI
open Go.RowKit
abbrev vA (x : Sp.Iv) : Int := x.a
abbrev vB (x : Sp.Iv) : Int := x.b
theorem v_inj {x y : Sp.Iv} (h : vA x = vA y) (k : vB x = vB y) : x = y := by
 cases x; cases y
 simp only [vA, vB] at h k
 rw [h, k]
def NumOk (x : Sp.Iv) : Prop := (Lit.int .i16 (vA x)).wf = true ∧ (Lit.int .i16 (vB x)).wf = true
theorem num_ok {x : Sp.Iv} (h : Wv x) : NumOk x := by
 obtain ⟨h1, h2, h3⟩ := h
 have e1 : IntKind.i16.min = -32768 := rfl
 have e2 : IntKind.i16.max = 32767 := rfl
 refine ⟨?_, ?_⟩ <;> (simp only [Lit.wf, vA, vB, e1, e2, Bool.and_eq_true, decide_eq_true_eq]; omega)
theorem num_zero : NumOk ⟨0, 0⟩ := ⟨by rfl, by rfl⟩
end WI
end Go.Proofs.YtiopfihjmkfdmaaGreatDoor
namespace Go.Proofs.YtiopfihjmkfdmaaGreatDoor
namespace WI
open Go.RowKit
set_option maxRecDepth 100000
set_option maxHeartbeats 1000000
def litV (x : Sp.Iv) : List Lit := [.int .i16 (vA x), .int .i16 (vB x)]
theorem lits_num (D : Nat) (n : Int) (h : (Lit.int .i16 n).wf = true) : Tryz.prog.keyLits (D + 1) 48 [.int .i16 n] = some [.int .i16 n] := by
 unfold Program.keyLits
 rw [Tryz.underlying48]
 exact if_pos ⟨rfl, h⟩
theorem lits_bool (D : Nat) (b : Bool) : Tryz.prog.keyLits (D + 1) 4 [.bool b] = some [.bool b] := by
 unfold Program.keyLits
 rw [Tryz.underlying4]
theorem lits_int (D : Nat) (n : Int) (h : (Lit.int .i64 n).wf = true) : Tryz.prog.keyLits (D + 1) 3 [.int .i64 n] = some [.int .i64 n] := by
 unfold Program.keyLits
 rw [Tryz.underlying3]
 exact if_pos ⟨rfl, h⟩
theorem cells_num : Tryz.prog.cellsOf 48 = 1 := by kernel_rfl
theorem cells_bool : Tryz.prog.cellsOf 4 = 1 := by kernel_rfl
theorem cells_int : Tryz.prog.cellsOf 3 = 1 := by kernel_rfl
theorem cells_val : Tryz.prog.cellsOf 131 = 2 := by kernel_rfl
theorem cells_arr : Tryz.prog.cellsOf 218 = 16 := by kernel_rfl
theorem cells_st : Tryz.prog.cellsOf 220 = 17 := by kernel_rfl
theorem cells_en : Tryz.prog.cellsOf 365 = 18 := by kernel_rfl
theorem lits_val (D : Nat) (x : Sp.Iv) (h : NumOk x) : Tryz.prog.keyLits (D + 1 + 1) 131 [.int .i16 x.a, .int .i16 x.b] = some (litV x) := by
 unfold Program.keyLits
 rw [Tryz.underlying131, cells_val]
 refine (if_pos ⟨rfl, by kernel_rfl⟩).trans ?_
 simp only [List.mapM_cons, List.mapM_nil, cells_num, List.drop_zero, List.drop_succ_cons, List.take_succ_cons, List.take_zero, lits_num D _ h.1, lits_num D _ h.2]
 rfl
theorem lits_arr (D : Nat) (e : Fin 8 → Sp.Iv) (h : ∀ k, NumOk (e k)) : Tryz.prog.keyLits (D + 1 + 1 + 1) 218 [.int .i16 (e 0).a, .int .i16 (e 0).b, .int .i16 (e 1).a, .int .i16 (e 1).b, .int .i16 (e 2).a, .int .i16 (e 2).b, .int .i16 (e 3).a, .int .i16 (e 3).b, .int .i16 (e 4).a, .int .i16 (e 4).b, .int .i16 (e 5).a, .int .i16 (e 5).b, .int .i16 (e 6).a, .int .i16 (e 6).b, .int .i16 (e 7).a, .int .i16 (e 7).b] = some (litV (e 0) ++ (litV (e 1) ++ (litV (e 2) ++ (litV (e 3) ++ (litV (e 4) ++ (litV (e 5) ++ (litV (e 6) ++ litV (e 7)))))))) := by
 unfold Program.keyLits
 rw [Tryz.underlying218, cells_arr]
 refine (if_pos rfl).trans ?_
 simp only [cells_val, show List.range 8 = [0, 1, 2, 3, 4, 5, 6, 7] from rfl, List.mapM_cons, List.mapM_nil, Nat.reduceMul, List.drop_zero, List.drop_succ_cons, List.take_succ_cons, List.take_zero, lits_val D _ (h _)]
 rfl
def valC (e : Fin 8 → Sp.Iv) : List Value := [.int .i16 (e 0).a, .int .i16 (e 0).b, .int .i16 (e 1).a, .int .i16 (e 1).b, .int .i16 (e 2).a, .int .i16 (e 2).b, .int .i16 (e 3).a, .int .i16 (e 3).b, .int .i16 (e 4).a, .int .i16 (e 4).b, .int .i16 (e 5).a, .int .i16 (e 5).b, .int .i16 (e 6).a, .int .i16 (e 6).b, .int .i16 (e 7).a, .int .i16 (e 7).b]
theorem stC_val (s : ST) : ∃ b e, (stC s).toList = .bool b :: valC e ∧ b = s.isSome ∧ ((∃ g, s = some g ∧ e = g) ∨ (s = none ∧ e = fun _ => ⟨0, 0⟩)) := by
 cases s with
 | none => exact ⟨false, fun _ => ⟨0, 0⟩, by rfl, rfl, .inr ⟨rfl, rfl⟩⟩
 | some e => exact ⟨true, e, by rfl, rfl, .inl ⟨e, rfl, rfl⟩⟩
theorem stC_ok {π : Par} {s : ST} (hs : Sp.Wf (Kr π) s) : ∃ b e, (stC s).toList = .bool b :: valC e ∧ ∀ k, NumOk (e k) := by
 obtain ⟨b, e, h1, _, h⟩ := stC_val s
 refine ⟨b, e, h1, ?_⟩
 rcases h with ⟨g, rfl, rfl⟩ | ⟨_, rfl⟩
 ·exact fun k => num_ok (hs _ rfl k)
 ·exact fun _ => num_zero
theorem valC_inj {e g : Fin 8 → Sp.Iv} (h : valC e = valC g) : e = g := by
 unfold valC at h
 simp only [List.cons.injEq, Value.int.injEq, true_and, and_true] at h
 funext k
 match k with
 | 0 => exact v_inj h.1 h.2.1
 | 1 => exact v_inj h.2.2.1 h.2.2.2.1
 | 2 => exact v_inj h.2.2.2.2.1 h.2.2.2.2.2.1
 | 3 => exact v_inj h.2.2.2.2.2.2.1 h.2.2.2.2.2.2.2.1
 | 4 => exact v_inj h.2.2.2.2.2.2.2.2.1 h.2.2.2.2.2.2.2.2.2.1
 | 5 => exact v_inj h.2.2.2.2.2.2.2.2.2.2.1 h.2.2.2.2.2.2.2.2.2.2.2.1
 | 6 => exact v_inj h.2.2.2.2.2.2.2.2.2.2.2.2.1 h.2.2.2.2.2.2.2.2.2.2.2.2.2.1
 | 7 => exact v_inj h.2.2.2.2.2.2.2.2.2.2.2.2.2.2.1 h.2.2.2.2.2.2.2.2.2.2.2.2.2.2.2
theorem stC_inj {s t : ST} (h : stC s = stC t) : s = t := by
 obtain ⟨b, e, h1, h2, h3⟩ := stC_val s
 obtain ⟨b', e', h1', h2', h3'⟩ := stC_val t
 rw [h, h1'] at h1
 injection h1 with hb he
 have he := valC_inj he
 injection hb with hb
 subst he
 rcases h3 with ⟨g, rfl, rfl⟩ | ⟨rfl, rfl⟩ <;> rcases h3' with ⟨g', rfl, rfl⟩ | ⟨rfl, h5⟩
 ·rfl
 ·rw [h2, h2'] at hb; cases hb
 ·rw [h2, h2'] at hb; cases hb
 ·rfl
theorem lits_st (D : Nat) (b : Bool) (e : Fin 8 → Sp.Iv) (h : ∀ k, NumOk (e k)) : ∃ L, Tryz.prog.keyLits (D + 1 + 1 + 1 + 1) 220 (.bool b :: valC e) = some L := by
 unfold Program.keyLits
 rw [Tryz.underlying220, cells_st]
 refine ⟨?_, (if_pos ⟨rfl, by kernel_rfl⟩).trans ?_⟩
 rotate_left
 ·unfold valC
  simp only [List.mapM_cons, List.mapM_nil, cells_bool, cells_arr, List.drop_zero, List.drop_succ_cons, List.take_succ_cons, List.take_zero, lits_bool, lits_arr D e h]
  rfl
theorem lits_en (D : Nat) (p : Int) (hp : (Lit.int .i64 p).wf = true) (b : Bool) (e : Fin 8 → Sp.Iv) (h : ∀ k, NumOk (e k)) : ∃ L, Tryz.prog.keyLits (D + 1 + 1 + 1 + 1 + 1) 365 (.int .i64 p :: .bool b :: valC e) = some L := by
 obtain ⟨L, hL⟩ := lits_st D b e h
 unfold Program.keyLits
 rw [Tryz.underlying365, cells_en]
 refine ⟨?_, (if_pos ⟨rfl, by kernel_rfl⟩).trans ?_⟩
 rotate_left
 ·unfold valC at hL ⊢
  simp only [List.mapM_cons, List.mapM_nil, cells_int, cells_st, List.drop_zero, List.drop_succ_cons, List.take_succ_cons, List.take_zero, lits_int _ p hp, hL]
  rfl
theorem many_types : 10 ≤ Tryz.prog.types.size := by exact Nat.le_of_ble_eq_true (by kernel_rfl)
theorem key_st {π : Par} {s : ST} (hs : Sp.Wf (Kr π) s) : ∃ l, keyOf Tryz.prog 220 (.agg (stC s)) = some l := by
 obtain ⟨b, e, h1, h2⟩ := stC_ok hs
 obtain ⟨D, hD⟩ : ∃ D, Tryz.prog.types.size + 1 = D + 1 + 1 + 1 + 1 := ⟨Tryz.prog.types.size - 3, by have := many_types; omega⟩
 obtain ⟨L, hL⟩ := lits_st D b e h2
 unfold keyOf
 rw [Tryz.underlying220, hD]
 have hk : Tryz.prog.keyType 220 = true := by kernel_rfl
 have hf : (Value.agg (stC s)).formed Tryz.prog 220 = true := by
  simp only [Value.formed, Tryz.underlying220, cells_st, stC_size]
  rfl
 refine ⟨?_, (if_pos (by rw [hk, hf]; rfl)).trans ?_⟩
 rotate_left
 ·show Option.map _ (Tryz.prog.keyLits _ _ (stC s).toList) = _
  rw [h1, hL]
  rfl
theorem keyA_list (p : Int) (s : ST) : (keyA p s).toList = .int .i64 p :: (stC s).toList := by simp [keyA]
theorem key_en {π : Par} {s : ST} (hs : Sp.Wf (Kr π) s) {p : Int} (hp : 0 ≤ p ∧ p ≤ 1000000) : ∃ l, keyOf Tryz.prog 365 (.agg (keyA p s)) = some l := by
 obtain ⟨b, e, h1, h2⟩ := stC_ok hs
 obtain ⟨D, hD⟩ : ∃ D, Tryz.prog.types.size + 1 = D + 1 + 1 + 1 + 1 + 1 := ⟨Tryz.prog.types.size - 4, by have := many_types; omega⟩
 have e1 : IntKind.i64.min = -9223372036854775808 := rfl
 have e2 : IntKind.i64.max = 9223372036854775807 := rfl
 obtain ⟨L, hL⟩ := lits_en D p (by simp only [Lit.wf, e1, e2, Bool.and_eq_true, decide_eq_true_eq]; omega) b e h2
 unfold keyOf
 rw [Tryz.underlying365, hD]
 have hk : Tryz.prog.keyType 365 = true := by kernel_rfl
 have hz : (keyA p s).size = 18 := by rw [← Array.length_toList, keyA_list, List.length_cons, stC_len]
 have hf : (Value.agg (keyA p s)).formed Tryz.prog 365 = true := by
  simp only [Value.formed, Tryz.underlying365, cells_en, hz]
  rfl
 refine ⟨?_, (if_pos (by rw [hk, hf]; rfl)).trans ?_⟩
 rotate_left
 ·show Option.map _ (Tryz.prog.keyLits _ _ (keyA p s).toList) = _
  rw [keyA_list, h1, hL]
  rfl
theorem law_st : WideMaps.KeyLaw Tryz.prog 220 := deep_law (m := 8) (by omega) (by kernel_rfl) (by kernel_rfl) (by rw [Tryz.underlying220])
theorem law_en : WideMaps.KeyLaw Tryz.prog 365 := deep_law (m := 8) (by omega) (by kernel_rfl) (by kernel_rfl) (by rw [Tryz.underlying365])
theorem eq_st {π : Par} {s t : ST} (hs : Sp.Wf (Kr π) s) (ht : Sp.Wf (Kr π) t) (w : World) : (Op.equal 220 (.agg (stC s)) (.agg (stC t))).run Tryz.prog w = .ok (Sp.eqS (Dm π) s t) w := by
 obtain ⟨l, hl⟩ := key_st hs
 obtain ⟨l', hl'⟩ := key_st ht
 obtain ⟨r, hr, hiff⟩ := run_equal_deep w (m := 8) (by omega) (by kernel_rfl) (by rw [Tryz.underlying220]) hl hl'
 rw [hr]
 congr 1
 have h2 : r = true ↔ s = t := by
  rw [hiff]
  constructor
  ·intro e
   subst e
   have := law_st.inj hl hl'
   injection this with this
   exact stC_inj this
  ·intro e
   subst e
   rw [hl] at hl'
   injection hl'
 have h3 := Sp.eqS_iff (Dm π) s t
 cases hc : Sp.eqS (Dm π) s t with
 | true => exact h2.2 (h3.1 hc)
 | false =>
  cases r with
  | false => rfl
  | true => rw [h3.2 (h2.1 rfl)] at hc; cases hc
end WI
end Go.Proofs.YtiopfihjmkfdmaaGreatDoor
