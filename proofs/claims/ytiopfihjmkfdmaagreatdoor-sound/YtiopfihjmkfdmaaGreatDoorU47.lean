import Derived.Test.YtiopfihjmkfdmaaGreatDoorU22
import Derived.Test.YtiopfihjmkfdmaaGreatDoorU46
import Derived.Carry
import Derived.ChangeSlices
namespace Go.Proofs.YtiopfihjmkfdmaaGreatDoor
open Go.RowKit
set_option maxRecDepth 100000
set_option maxHeartbeats 2000000
def IntsAt (w : World) (v : Value) (l : List Int) : Prop :=
 ∃ a cap, v = .slice a l.length cap ∧ l.length ≤ cap ∧ (l ≠ [] → ∃ g off, a = some ⟨g, off, none⟩ ∧ ∀ i n, l[i]? = some n → w.cell? ⟨g, off + i, none⟩ = some (.int .i64 n))
theorem IntsAt.after {w w' : World} {v : Value} {l : List Int} (h : IntsAt w v l) (hb : Below w.heap.size w w') : IntsAt w' v l := by
 obtain ⟨a, cap, h1, h2, h3⟩ := h
 refine ⟨a, cap, h1, h2, fun hne => ?_⟩
 obtain ⟨g, off, h4, h5⟩ := h3 hne
 exact ⟨g, off, h4, fun i n hn => by rw [hb.cell (p := ⟨g, off + i, none⟩) (cell_lt (h5 i n hn))]; exact h5 i n hn⟩
theorem info16 : (Tryz.prog.info? 48).map (fun i => (i.zero, i.size, i.bytes)) = some (some (.int .i16 0), 1, 2) := by kernel_rfl
theorem info64 : (Tryz.prog.info? 3).map (fun i => (i.zero, i.size, i.bytes)) = some (some (.int .i64 0), 1, 8) := by kernel_rfl
theorem w16_range (n : Int) : -32768 ≤ IntKind.i16.wrap n ∧ IntKind.i16.wrap n ≤ 32767 := by
 simp only [IntKind.wrap, IntKind.bits, IntKind.signed]; simp; split <;> omega
theorem wrap_w16 (n : Int) : RowKit.wrap64 (IntKind.i16.wrap n) = IntKind.i16.wrap n := by
 have := w16_range n
 unfold RowKit.wrap64
 omega
def c16 (l : List Int) : List Value := l.map fun n => .int .i16 (Sp.w16 n)
def c64 (l : List Int) : List Value := l.map fun n => .int .i64 (Sp.w16 n)
theorem inputs_calls (lv : Value) (l : List Int) (w : World) (h : IntsAt w lv l) (hl : l.length ≤ 1048576) :
  Calls Tryz.prog 22 #[lv] w fun e w' => ∃ a b, e = .returned (.tuple #[a, b]) ∧ w'.ownsRow w.heap.size 48 1 a l.length (c16 l) ∧ w'.ownsRow w.heap.size 3 1 b l.length (c64 l) ∧ Below w.heap.size w w' := by
 obtain ⟨i16, hi16, hz16, hs16, hb16⟩ := info_parts info16
 obtain ⟨i64, hi64, hz64, hs64, hb64⟩ := info_parts info64
 obtain ⟨ad, cap, rfl, hcap, hc⟩ := h
 go_enter Tryz.func22, Tryz.ntmps22
 go_wp2_with fail
 go_loopw [4, 5, 6] (fun a b i wr => ∃ j : Nat, j ≤ l.length ∧ i = .int .i64 j ∧ Hid (wr.ownsRow w.heap.size 48 1 a j (c16 (l.take j)) ∧ wr.ownsRow w.heap.size 3 1 b j (c64 (l.take j)) ∧ Below w.heap.size w wr)) (fun _ _ i _ => l.length - (intOf i).toNat)
 case atStart => exact ⟨0, Nat.zero_le _, rfl, World.ownsRow_nil _ _ _ _, World.ownsRow_nil _ _ _ _, Below.refl _ _⟩
 case round =>
  obtain ⟨j, hj, rfl, hq⟩ := hrel
  by_cases hjlt : j < l.length
  ·have hji : (j : Int) < (l.length : Int) := by omega
   have hne : l ≠ [] := by intro e; subst e; simp at hjlt
   obtain ⟨g, off, rfl, hcell⟩ := hc hne
   obtain ⟨n, hn⟩ : ∃ n, l[j]? = some n := ⟨_, List.getElem?_eq_getElem hjlt⟩
   have hcj := hcell j n hn
   have hcr : wr.cell? ⟨g, off + j, none⟩ = some (.int .i64 n) := by rw [hq.out.2.2.cell (p := ⟨g, off + j, none⟩) (cell_lt hcj)]; exact hcj
   have hq1 := hq.out.1
   have hq2 := hq.out.2.1
   have hbs := hq.out.2.2.size
   have htk : l.take (j + 1) = l.take j ++ [n] := by
    have hk := List.getElem?_eq_some_iff.1 hn
    rw [List.take_succ_eq_append_getElem hk.1, hk.2]
   have HQ1 : Hid (wr.ownsRow w.heap.size 48 1 u4 j (c16 (l.take j))) := hq1
   clear hq1 hq2
   go_wp2_with (first
    | (at_builtin; refine wpList_append_own_at _ rfl _ _ 36 rfl w.heap.size 48 i16 (.int .i16 0) 1 2 Tryz.underlying36 hi16 hz16 hs16 hb16 rfl (by decide) _ _ _ rfl (HQ1.out.alloc _) ⟨wr.heap.size, 0, none⟩ 1 1 [.int .i16 (IntKind.i16.wrap n)] rfl rfl (cell_one_new _ _ _) ?q1 ?q2 ?q3 ?q4 ?_))
   case q1 => intro u hu; simp at hu; subst hu; rfl
   case q2 => unfold maxLen; omega
   case q3 => omega
   case q4 => simp; omega
   intro v' w2 hown2 hgrow2 hnil2 hat2
   have hg2 := grown_alloc hgrow2
   have b2 : Below w.heap.size w w2 := hq.out.2.2.grown hg2 hbs (fun k hk => (ownsRow9_lt HQ1.out k hk).1)
   have h64 : w2.ownsRow w.heap.size 3 1 u5 j (c64 (l.take j)) := ownsRow9_keep hq.out.2.1 (fun k hk => hg2.block k (ownsRow9_lt hq.out.2.1 k hk).2.1 (fun e => by
    obtain ⟨_, _, c, hc⟩ := ownsRow9_lt hq.out.2.1 k hk
    obtain ⟨_, _, c', hc'⟩ := ownsRow9_lt HQ1.out k e.symm
    rw [hc] at hc'
    cases hc'))
   have hcr2 : w2.cell? ⟨g, off + j, none⟩ = some (.int .i64 n) := by rw [b2.cell (p := ⟨g, off + j, none⟩) (cell_lt hcj)]; exact hcj
   have H16 : Hid (w2.ownsRow w.heap.size 48 1 v' (j + 1) (c16 (l.take (j + 1)))) := by
    unfold Hid; rw [htk]
    have := hown2
    simpa [c16, Sp.w16] using this
   have H64 : Hid (w2.ownsRow w.heap.size 3 1 u5 j (c64 (l.take j))) := h64
   obtain ⟨av, nv, cv, rfl⟩ : ∃ a n c, v' = .slice a n c := by
    rcases hown2.2 with ⟨hv, _⟩ | ⟨g, cap, cur, hv, _⟩
    ·exact ⟨_, _, _, hv⟩
    ·exact ⟨_, _, _, hv⟩
   have hbs2 := b2.size
   clear hown2 hgrow2 hnil2 hat2 hg2 h64 hcr
   go_wp2_with (first
    | (at_builtin; refine wpList_append_own_at _ rfl _ _ 35 rfl w.heap.size 3 i64 (.int .i64 0) 1 8 Tryz.underlying35 hi64 hz64 hs64 hb64 rfl (by decide) _ _ _ rfl (H64.out.alloc _) ⟨w2.heap.size, 0, none⟩ 1 1 [.int .i64 (RowKit.wrap64 (IntKind.i16.wrap n))] rfl rfl (cell_one_new _ _ _) ?q1 ?q2 ?q3 ?q4 ?_))
   case q1 => intro u hu; simp at hu; subst hu; rfl
   case q2 => unfold maxLen; omega
   case q3 => omega
   case q4 => simp; omega
   intro v3 w3 hown3 hgrow3 hnil3 hat3
   have hg3 := grown_alloc hgrow3
   have b3 : Below w.heap.size w w3 := b2.grown hg3 hbs2 (fun k hk => (ownsRow9_lt H64.out k hk).1)
   have HQ : Hid (w3.ownsRow w.heap.size 48 1 (.slice av nv cv) (j + 1) (c16 (l.take (j + 1))) ∧ w3.ownsRow w.heap.size 3 1 v3 (j + 1) (c64 (l.take (j + 1))) ∧ Below w.heap.size w w3) := by
    refine ⟨ownsRow9_keep H16.out (fun k hk => hg3.block k (ownsRow9_lt H16.out k hk).2.1 (fun e => by
     obtain ⟨_, _, c, hc⟩ := ownsRow9_lt H16.out k hk
     obtain ⟨_, _, c', hc'⟩ := ownsRow9_lt H64.out k e.symm
     rw [hc] at hc'
     cases hc')), ?_, b3⟩
    rw [htk]
    have := hown3
    rw [wrap_w16] at this
    simpa [c64, Sp.w16] using this
   clear hown3 hgrow3 hnil3 hat3 hg3 H16 H64 hcr2
   go_wp2_with fail
   exact ⟨⟨j + 1, by omega, by go_num, HQ⟩, by simp [intOf]; omega⟩
  ·have hji : ¬ ((j : Int) < (l.length : Int)) := by omega
   have HE : Hid (wr.ownsRow w.heap.size 48 1 u4 l.length (c16 l) ∧ wr.ownsRow w.heap.size 3 1 u5 l.length (c64 l)) := by
    have e : j = l.length := by omega
    subst e
    have h1 := hq.out.1
    have h2 := hq.out.2.1
    rw [List.take_length] at h1 h2
    exact ⟨h1, h2⟩
   go_wp2_with fail
   go_ret2
   exact ⟨_, _, rfl, HE.out.1, HE.out.2, hq.out.2.2⟩
end Go.Proofs.YtiopfihjmkfdmaaGreatDoor
namespace Go.Proofs.YtiopfihjmkfdmaaGreatDoor
open Go.ChangeShapes Go.WideShapes Go.ChangeAt Go.RowKit
set_option maxRecDepth 100000
theorem laidOut : laidOutB Tryz.prog = true := by kernel_rfl
theorem ints_in {H : Type} {enc : TypeId × Value → H} {W : World} {base : Nat} {v : Value} {d : DataW H} {p : List MemPlace} (hval : Value.okWide Tryz.prog W .any base 35 v) (h : DataW.Trod enc Tryz.prog W 0 (fun _ => true) true 35 v d p) : ∃ l, IntsAt W v l := by
 obtain ⟨a0, len, cap, rfl⟩ := okWide_slice Tryz.underlying35 hval
 obtain ⟨fuel, hf⟩ := h
 rcases open_ints Tryz.underlying35 Tryz.underlying3 (by kernel_rfl) hf with ⟨hcs, _⟩ | ⟨a, len', cap', zs, hcs, _, hl, hm, hz, _, hcell, _⟩
 ·simp [Value.cells] at hcs
  obtain ⟨rfl, rfl, rfl⟩ := hcs
  exact ⟨[], none, 0, rfl, Nat.le_refl _, fun h => absurd rfl h⟩
 ·simp [Value.cells] at hcs
  obtain ⟨rfl, rfl, rfl⟩ := hcs
  simp only [if_true] at hz
  refine ⟨zs.take len, some a, cap, ?_, ?_, fun hne => ?_⟩
  ·simp; omega
  ·simp; omega
  ·have hz0 : 0 < zs.length := by
    rcases Nat.eq_zero_or_pos zs.length with h | h
    ·exact absurd (by rw [List.eq_nil_of_length_eq_zero h]; simp) hne
    ·exact h
   obtain ⟨g, off, sp⟩ := a
   have hsp : sp = none := World.cell?_spot (a := ⟨g, off, sp⟩) (hcell 0 hz0)
   subst hsp
   refine ⟨g, off, rfl, fun i n hn => ?_⟩
   have hi : i < zs.length := by
    have := (List.getElem?_eq_some_iff.1 hn).1
    simp at this; omega
   have h1 := hcell i hi
   rw [add_plain] at h1
   rw [h1]
   have h2 : zs[i]? = some n := by
    rw [List.getElem?_take] at hn
    split at hn
    ·exact hn
    ·cases hn
   rw [List.getD, h2]; rfl
end Go.Proofs.YtiopfihjmkfdmaaGreatDoor
namespace Go.Proofs.YtiopfihjmkfdmaaGreatDoor
open Go.RowKit
set_option maxRecDepth 100000
set_option maxHeartbeats 1000000
theorem infoI16 : (Tryz.prog.info? 48).map (fun i => (i.zero, i.size, i.bytes)) = some (some (.int .i16 0), 1, 2) := by kernel_rfl
def shorts (zs : List Int) : List Value := zs.map fun z => .int .i16 z
def RowS (base : Nat) (w : World) (v : Value) (zs : List Int) : Prop := w.ownsRow base 48 1 v zs.length (shorts zs)
def stepsFrom (ns : List Nat) : List Int := [-32768, 32767] ++ ns.flatMap fun (n : Nat) => [((n : Nat) : Int), -((n : Nat) : Int)]
theorem RowS.form {base : Nat} {w : World} {v : Value} {zs : List Int} (h : RowS base w v zs) : ∃ a c, v = .slice a zs.length c := by
 rcases h.2 with ⟨rfl, hz⟩ | ⟨g, cap, cur, rfl, _⟩
 ·exact ⟨none, 0, by rw [hz]⟩
 ·exact ⟨_, _, rfl⟩
def NumsAt (w : World) (v : Value) (ns : List Nat) : Prop :=
 ∃ a cap, v = .slice a ns.length cap ∧ (ns ≠ [] → ∃ g off, a = some ⟨g, off, none⟩ ∧ g < w.heap.size ∧ ∀ (i n : Nat), ns[i]? = some n → w.cell? ⟨g, off + i, none⟩ = some (.int .i16 ((n : Nat) : Int)))
theorem rowS_more {base : Nat} {w w2 : World} {v v' : Value} {zs : List Int} {x y : Int} {o : Obj} (hb : base ≤ w.heap.size) (h : RowS base w v zs) (hown : w2.ownsRow base 48 1 v' (zs.length + 2) (shorts zs ++ [.int .i16 x, .int .i16 y])) (hg : (w.alloc o).grownBy w2 v.ownBlock) {w0 : World} (b0 : Below base w0 w) : RowS base w2 v' (zs ++ [x, y]) ∧ Below base w0 w2 := by
 refine ⟨?_, b0.grown (grown_alloc hg) hb (fun k hk => (ownsRow9_lt h k hk).1)⟩
 unfold RowS shorts at *
 rw [List.length_append, List.map_append]
 exact hown
theorem stepsFrom_len (ns : List Nat) : (stepsFrom ns).length = 2 + 2 * ns.length := by
 unfold stepsFrom
 rw [List.length_append]
 induction ns with
 | nil => rfl
 | cons x xs ih =>
  rw [List.flatMap_cons, List.length_append, List.length_cons] at *
  simp only [List.length_cons, List.length_nil] at *
  omega
theorem iv_new (v : Value) (ns : List Nat) (w : World) (h : NumsAt w v ns) (hs : ns.length ≤ 1000) (hn : ∀ n ∈ ns, n ≤ 32767) :
  Calls Tryz.prog 52 #[v] w fun e w' => ∃ u, e = .returned (.agg #[u]) ∧ RowS w.heap.size w' u (stepsFrom ns) ∧ Below w.heap.size w w' := by
 obtain ⟨i16, hi16, hz16, hs16, hb16⟩ := info_parts infoI16
 obtain ⟨ad, cap, rfl, hc⟩ := h
 have HN : Hid (∀ n ∈ ns, n ≤ 32767) := hn
 have HC : Hid (ns ≠ [] → _) := hc
 clear hn hc
 go_enter Tryz.func52, Tryz.ntmps52
 go_wp2_with fail
 have W0 : Hid (RowS (w.heap.size + 1) ((w.alloc (.cells #[.slice none 0 0] 133)).alloc (.cells #[.int .i16 (-32768), .int .i16 32767] 48)) (.slice (some ⟨w.heap.size + 1, 0, none⟩) 2 2) (stepsFrom [])) := by
  refine ⟨rfl, .inr ⟨w.heap.size + 1, 2, #[.int .i16 (-32768), .int .i16 32767], rfl, Nat.le_refl _, ?_, Nat.le_refl _, by unfold maxLen; omega, rfl, rfl⟩⟩
  have := heap_alloc_new (w.alloc (.cells #[.slice none 0 0] 133)) (.cells #[.int .i16 (-32768), .int .i16 32767] 48)
  simpa using this
 have hw0 : ((w.alloc (.cells #[.slice none 0 0] 133)).alloc (.cells #[.int .i16 (-32768), .int .i16 32767] 48)).heap[w.heap.size]? = some (.cells #[.slice none 0 0] 133) := heap_alloc_old (heap_alloc_new _ _)
 have hwb : Below w.heap.size w ((w.alloc (.cells #[.slice none 0 0] 133)).alloc (.cells #[.int .i16 (-32768), .int .i16 32767] 48)) := by go_grown
 have hws : w.heap.size + 1 ≤ ((w.alloc (.cells #[.slice none 0 0] 133)).alloc (.cells #[.int .i16 (-32768), .int .i16 32767] 48)).heap.size := by simp
 generalize (w.alloc (.cells #[.slice none 0 0] 133)).alloc (.cells #[.int .i16 (-32768), .int .i16 32767] 48) = wz at *
 go_loopw [3, 9] (fun v3 v9 wr => ∃ j : Nat, j ≤ ns.length ∧ v9 = .int .i64 j ∧ Hid (RowS (w.heap.size + 1) wr v3 (stepsFrom (ns.take j)) ∧ Below (w.heap.size + 1) wz wr ∧ w.heap.size + 1 ≤ wr.heap.size)) (fun _ v9 _ => ns.length - (intOf v9).toNat)
 case atStart => exact ⟨0, Nat.zero_le _, rfl, W0.out, Below.refl _ _, hws⟩
 case round =>
  obtain ⟨j, hj, rfl, hq⟩ := hrel
  obtain ⟨aq, cq, rfl⟩ := hq.out.1.form
  by_cases hjlt : j < ns.length
  ·obtain ⟨z, hz⟩ : ∃ z, ns[j]? = some z := ⟨_, List.getElem?_eq_getElem hjlt⟩
   have hne : ns ≠ [] := by intro e; subst e; simp at hjlt
   obtain ⟨g, off, rfl, hg, hcell⟩ := HC.out hne
   have hcz : wr.cell? ⟨g, off + j, none⟩ = some (.int .i16 ((z : Nat) : Int)) := by
    rw [hq.out.2.1.cell (p := ⟨g, off + j, none⟩) (by show g < w.heap.size + 1; omega), hwb.cell (p := ⟨g, off + j, none⟩) hg]; exact hcell j z hz
   have hzz := HN.out z (List.mem_of_getElem? hz)
   have hzi : ((z : Nat) : Int) ≤ 32767 := by omega
   have htk : Hid (stepsFrom (ns.take (j + 1)) = stepsFrom (ns.take j) ++ [((z : Nat) : Int), -((z : Nat) : Int)]) := by
    have hk := List.getElem?_eq_some_iff.1 hz
    unfold Hid stepsFrom
    rw [List.take_succ_eq_append_getElem hk.1, hk.2, List.flatMap_append, ← List.append_assoc]
    simp
   have hsl : (stepsFrom (ns.take j)).length ≤ 2000 := by rw [stepsFrom_len, List.length_take]; omega
   have hrow : Hid (RowS (w.heap.size + 1) wr (.slice aq (stepsFrom (ns.take j)).length cq) (stepsFrom (ns.take j))) := hq.out.1
   have hbs := hq.out.2.2
   clear hz hcell
   go_wp2_with (first
    | (at_builtin; refine wpList_append_own_at _ rfl _ _ 36 rfl (w.heap.size + 1) 48 i16 (.int .i16 0) 1 2 Tryz.underlying36 hi16 hz16 hs16 hb16 rfl (by decide) _ _ _ rfl (hrow.out.alloc _) ⟨wr.heap.size, 0, none⟩ 2 2 [.int .i16 ((z : Nat) : Int), .int .i16 (-((z : Nat) : Int))] rfl rfl (World.news_of_block (cs := #[.int .i16 ((z : Nat) : Int), .int .i16 (-((z : Nat) : Int))]) (t := 48) (fr := (0, 0)) (heap_alloc_new _ _)) ?q1 ?q2 ?q3 ?q4 ?_))
   case q1 => intro u hu; simp at hu; rcases hu with rfl | rfl <;> rfl
   case q2 => unfold maxLen; omega
   case q3 => omega
   case q4 => simp; omega
   intro v3 w3 hown3 hgrow3 _ _
   obtain ⟨r3, b3⟩ := rowS_more hbs hrow.out hown3 hgrow3 hq.out.2.1
   rw [← htk.out] at r3
   have hs3 : w.heap.size + 1 ≤ w3.heap.size := by have h1 := b3.size; omega
   have HQ : Hid (_ ∧ _ ∧ _) := And.intro r3 (And.intro b3 hs3)
   clear hown3 hgrow3 r3 b3 hs3 hrow
   go_wp2_with fail
   exact ⟨⟨j + 1, by omega, by go_num, HQ⟩, by simp [intOf]; omega⟩
  ·have EJ : Hid (ns.take j = ns) := List.take_of_length_le (by omega)
   have hr0 : wr.heap[w.heap.size]? = some (.cells #[.slice none 0 0] 133) := (hq.out.2.1.block _ (Nat.lt_succ_self _)).trans hw0
   have m0 := cell_of hr0 0 (v := .slice none 0 0) rfl
   have mf0 := frozen_of hr0 0
   have hrow : RowS (w.heap.size + 1) wr (.slice aq (stepsFrom (ns.take j)).length cq) (stepsFrom (ns.take j)) := hq.out.1
   have MQ : Hid ((wr.setCell ⟨w.heap.size, 0, none⟩ (.slice aq (stepsFrom (ns.take j)).length cq)).cell? ⟨w.heap.size, 0, none⟩ = some (.slice aq (stepsFrom (ns.take j)).length cq)) := cell_of (heap_setCell_at hr0 0 (.slice aq (stepsFrom (ns.take j)).length cq)) 0 rfl
   have HF : Hid (RowS w.heap.size (wr.setCell ⟨w.heap.size, 0, none⟩ (.slice aq (stepsFrom (ns.take j)).length cq)) (.slice aq (stepsFrom (ns.take j)).length cq) (stepsFrom ns) ∧ Below w.heap.size w (wr.setCell ⟨w.heap.size, 0, none⟩ (.slice aq (stepsFrom (ns.take j)).length cq))) := by
    refine ⟨?_, ?_⟩
    ·have ej := EJ.out
     rw [ej] at hrow ⊢
     have h1 := ownsRow9_keep (w' := wr.setCell ⟨w.heap.size, 0, none⟩ (.slice aq (stepsFrom ns).length cq)) hrow (fun k hk => Below.heap_setCell _ _ _ _ (by have := (ownsRow9_lt hrow k hk).1; show k ≠ w.heap.size; omega))
     obtain ⟨h2, h3⟩ := h1
     refine ⟨h2, ?_⟩
     rcases h3 with h3 | ⟨g, cap, cur, e, hg, r⟩
     ·exact .inl h3
     ·exact .inr ⟨g, cap, cur, e, Nat.le_trans (Nat.le_succ _) hg, r⟩
    ·exact (hwb.trans (hq.out.2.1.mono (Nat.le_succ _))).setCell (p := ⟨w.heap.size, 0, none⟩) (Nat.le_refl _) _
   clear hrow hr0
   go_wp2_with fail
   exact bodyPost_ret (v := .agg #[.slice aq (stepsFrom (ns.take j)).length cq]) (by simp [results, Tryz.results52, go_sem, MQ.out]) rfl ⟨_, rfl, HF.out.1, HF.out.2⟩
end Go.Proofs.YtiopfihjmkfdmaaGreatDoor
namespace Go.Proofs.YtiopfihjmkfdmaaGreatDoor
open Go.RowKit
set_option maxRecDepth 100000
set_option maxHeartbeats 4000000
theorem thresholds_calls (va : Option Addr) (vn vc : Nat) (p q : Int) (na : Option Addr) (nn nc : Nat) (dom delay narrow unroll : Int) (th : Bool) (w : World) :
  Calls Tryz.prog 53 #[.agg #[.slice va vn vc, .int .i64 p, .int .i64 q, .slice na nn nc], .agg #[.int .i64 dom, .int .i64 delay, .int .i64 narrow, .int .i64 unroll, .bool th]] w fun e w' => e = .returned (if th then .slice na nn nc else .slice none 0 0) ∧ Below w.heap.size w w' := by
 cases th with
 | true =>
  go_enter Tryz.func53, Tryz.ntmps53
  go_wp2_with fail
  go_ret
  exact ⟨rfl, by go_grown⟩
 | false =>
  go_enter Tryz.func53, Tryz.ntmps53
  go_wp2_with fail
  go_ret
  exact ⟨rfl, by go_grown⟩
theorem isConfig_yes (delay narrow unroll : Nat) (th : Bool) (h1 : delay ≤ 4) (h2 : narrow ≤ 3) (h3 : unroll ≤ 3) (w : World) :
  Calls Tryz.prog 49 #[.agg #[.int .i64 0, .int .i64 (delay : Nat), .int .i64 (narrow : Nat), .int .i64 (unroll : Nat), .bool th]] w fun e w' => e = .returned (.bool true) ∧ Below w.heap.size w w' := by
 have H1 : Hid (∀ W, Calls _ _ _ W _) := fun W => within_yes (delay : Nat) 4 W (by omega) (by omega)
 have H2 : Hid (∀ W, Calls _ _ _ W _) := fun W => within_yes (narrow : Nat) 3 W (by omega) (by omega)
 have H3 : Hid (∀ W, Calls _ _ _ W _) := fun W => within_yes (unroll : Nat) 3 W (by omega) (by omega)
 clear h1 h2 h3
 go_enter Tryz.func49, Tryz.ntmps49
 go_wp2_with fail
 refine (H1.out _).mono ?_
 rintro r w1 ⟨rfl, rfl⟩
 go_wp2_with fail
 refine (H2.out _).mono ?_
 rintro r w1 ⟨rfl, rfl⟩
 go_wp2_with fail
 refine (H3.out _).mono ?_
 rintro r w1 ⟨rfl, rfl⟩
 go_wp2_with fail
 go_ret
 exact ⟨rfl, by go_grown⟩
def stepsAt (th : Bool) (t : Sp.Bl) : List Int := stepsFrom (if th then Sp.natsB t else [])
theorem does_of {w : World} {B : Nat} {u : Value} {zs : List Int} (h : RowS B w u zs) (hz : zs ≠ []) (hl : (zs.length : Int) ≤ 1000000) : WI.Does w.heap.size zs (.agg #[u]) w := by
 rcases h.2 with ⟨_, h0⟩ | ⟨g, cap, cur, rfl, hb, hh, hn, hm, hs, ht⟩
 ·exact absurd (List.eq_nil_of_length_eq_zero h0) hz
 ·refine ⟨Nat.le_refl _, g, 0, cap, rfl, heap_lt hh, hl, fun i x hx => ?_⟩
  rw [Nat.zero_add]
  refine cell_of hh i ?_
  have h2 : i < zs.length := (List.getElem?_eq_some_iff.1 hx).1
  have h3 : cur.toList[i]? = (shorts zs)[i]? := by
   rw [← ht, List.getElem?_take, if_pos (by omega)]
  rw [← Array.getElem?_toList, h3]
  unfold shorts
  rw [List.getElem?_map, hx]
  rfl
theorem numsAt_of {w : World} {B : Nat} {v : Value} {ns : List Nat} (h : w.ownsRow B 226 1 v ns.length (numVals ns)) : NumsAt w v ns := by
 rcases h.2 with ⟨rfl, h0⟩ | ⟨g, cap, cur, rfl, hb, hh, hn, hm, hs, ht⟩
 ·have : ns = [] := List.eq_nil_of_length_eq_zero h0
  subst this
  exact ⟨none, 0, rfl, fun h => absurd rfl h⟩
 ·refine ⟨_, cap, rfl, fun _ => ⟨g, 0, rfl, heap_lt hh, fun i n hi => ?_⟩⟩
  rw [Nat.zero_add]
  refine cell_of hh i ?_
  have h2 : i < ns.length := (List.getElem?_eq_some_iff.1 hi).1
  have h3 : cur.toList[i]? = (numVals ns)[i]? := by
   rw [← ht, List.getElem?_take, if_pos (by omega)]
  rw [← Array.getElem?_toList, h3]
  unfold numVals
  rw [List.getElem?_map, hi]
  rfl
theorem NumsAt.below {w w' : World} {v : Value} {ns : List Nat} (h : NumsAt w v ns) (b : Below w.heap.size w w') : NumsAt w' v ns := by
 obtain ⟨a, cap, rfl, hc⟩ := h
 refine ⟨a, cap, rfl, fun hn => ?_⟩
 obtain ⟨g, off, h1, h2, h3⟩ := hc hn
 exact ⟨g, off, h1, Nat.lt_of_lt_of_le h2 b.size, fun i n hi => by rw [b.cell (p := ⟨g, off + i, none⟩) h2]; exact h3 i n hi⟩
def RepAt (B : Nat) (w : World) (v : Value) (F : List (Option (Fin 8 → Sp.Iv)) × List Nat) : Prop :=
 ∃ g h, v = .agg #[.slice (some ⟨g, 0, none⟩) F.1.length F.1.length, .slice (some ⟨h, 0, none⟩) F.2.length F.2.length] ∧ B ≤ g ∧ B ≤ h ∧ w.heap[g]? = some (.cells (WI.fcCells F.1).toArray 76) ∧ w.heap[h]? = some (.cells (WI.siteCells F.2).toArray 3)
def AnPost (w : World) (th : Bool) (P : Sp.Pol) : Except (Nat × Nat) Sp.Bl → Ending → World → Prop
 | .ok t, e, w' => ∃ v, e = .returned (.tuple #[v, .nilIface]) ∧ RepAt w.heap.size w' v (Sp.reportOf (Sp.ivDom (stepsAt th t)) P t) ∧ Below w.heap.size w w'
 | .error er, e, w' => ∃ v, e = .returned (.tuple #[.agg #[.slice none 0 0, .slice none 0 0], v]) ∧ ErrAt w' w.heap.size v er ∧ Below w.heap.size w w'
end Go.Proofs.YtiopfihjmkfdmaaGreatDoor
namespace Go.Proofs.YtiopfihjmkfdmaaGreatDoor
open Go.RowKit
set_option maxRecDepth 100000
set_option maxHeartbeats 4000000
theorem results_an (tmps : Array Value) (w : World) {b : Nat} {c : Array Value} (ht : tmps.getD 4 undef = .pointer (some ⟨b, 0, none⟩)) (hu : tmps.getD 5 undef = .nilIface) (hl : (loadVar 64 ⟨b, 0, none⟩).run Tryz.prog w = .ok (.agg c) w) :
  (results Tryz.f32 tmps).run Tryz.prog w = .ok (.tuple #[.agg c, .nilIface]) w := by
 have ht' : tmps[4]?.getD undef = .pointer (some ⟨b, 0, none⟩) := by rw [← ht]; simp
 have hu' : tmps[5]?.getD undef = .nilIface := by rw [← hu]; simp
 unfold results
 rw [Tryz.results32]
 simp [asAddr, ht', hu', hl]
theorem repAt_mk {B : Nat} {w : World} {g h : Nat} (F : List (Option (Fin 8 → Sp.Iv)) × List Nat) (p q : Nat) (l1 : F.1.length = p + 1) (l2 : F.2.length = q) (e1 : w.heap[g]? = some (.cells (WI.fcCells F.1).toArray 76)) (e2 : w.heap[h]? = some (.cells (WI.siteCells F.2).toArray 3)) (e3 : B ≤ g) (e4 : B ≤ h) :
  RepAt B w (.agg #[.slice (some ⟨g, 0, none⟩) (p + 1) (p + 1), .slice (some ⟨h, 0, none⟩) q q]) F := ⟨g, h, by rw [l1, l2], e3, e4, e1, e2⟩
theorem Analyze_calls (s : ByteArray) (delay narrow unroll : Nat) (th : Bool) (w : World) (hs : s.size ≤ 1048576) (hL : Laid w) (hT : Turns w) (h1 : delay ≤ 4) (h2 : narrow ≤ 3) (h3 : unroll ≤ 3) :
  Calls Tryz.prog 32 #[.string s, .agg #[.int .i64 0, .int .i64 (delay : Nat), .int .i64 (narrow : Nat), .int .i64 (unroll : Nat), .bool th]] w (AnPost w th ⟨delay, narrow, unroll⟩ (Sp.tree s.data.toList)) := by
 obtain ⟨k0, k1, kb⟩ := laid2b (w := w) (o1 := .cells #[.int .i64 0, .int .i64 (delay : Nat), .int .i64 (narrow : Nat), .int .i64 (unroll : Nat), .bool th] 58) (o2 := .cells #[.slice none 0 0, .slice none 0 0] 64) (Below.refl _ _)
 have hsz : ((w.alloc (.cells #[.int .i64 0, .int .i64 (delay : Nat), .int .i64 (narrow : Nat), .int .i64 (unroll : Nat), .bool th] 58)).alloc (.cells #[.slice none 0 0, .slice none 0 0] 64)).heap.size = w.heap.size + 1 + 1 := by simp
 have hc := Program_calls WI.RtAn s ((w.alloc (.cells #[.int .i64 0, .int .i64 (delay : Nat), .int .i64 (narrow : Nat), .int .i64 (unroll : Nat), .bool th] 58)).alloc (.cells #[.slice none 0 0, .slice none 0 0] 64)) hs (hL.below kb hL.size)
 have K0 : Hid (_ = _) := k0
 have K1 : Hid (_ = _) := k1
 have KB : Hid (Below w.heap.size w _) := kb
 clear k0 k1 kb
 cases hr : Sp.parse Sp.Tr s.data.toList with
 | error er =>
  have E : Hid (Sp.tree s.data.toList = .error er) := by unfold Hid Sp.tree; rw [hr]
  rw [hr] at hc
  go_enter Tryz.func32, Tryz.ntmps32
  go_wp2_with fail
  generalize (w.alloc (.cells #[.int .i64 0, .int .i64 (delay : Nat), .int .i64 (narrow : Nat), .int .i64 (unroll : Nat), .bool th] 58)).alloc (.cells #[.slice none 0 0, .slice none 0 0] 64) = wz at *
  refine hc.mono ?_
  rintro e w1 ⟨v, rfl, hv, b1⟩
  obtain ⟨tv, uv, rfl⟩ := err_iface hv
  have hn1 : (w1.alloc (.cells #[.slice none 0 0, .int .i64 0, .int .i64 0, .slice none 0 0] 86)).heap[w.heap.size + 1]? = some (.cells #[.slice none 0 0, .slice none 0 0] 64) := heap_alloc_old (by rw [b1.block _ (by omega)]; exact K1.out)
  have c0 := cell_of hn1 0 (v := .slice none 0 0) rfl
  have c1 := cell_of hn1 1 (v := .slice none 0 0) rfl
  have f0 := frozen_of hn1 0
  have f1 := frozen_of hn1 1
  have h2 := heap_setCell_at (heap_setCell_at hn1 0 (.slice none 0 0)) 1 (.slice none 0 0)
  have Q0 : Hid (_ = _) := cell_of h2 0 (v := .slice none 0 0) rfl
  have Q1 : Hid (_ = _) := cell_of h2 1 (v := .slice none 0 0) rfl
  have HV : Hid (ErrAt (((w1.alloc (.cells #[.slice none 0 0, .int .i64 0, .int .i64 0, .slice none 0 0] 86)).setCell ⟨w.heap.size + 1, 0, none⟩ (.slice none 0 0)).setCell ⟨w.heap.size + 1, 1, none⟩ (.slice none 0 0)) w.heap.size (.iface tv uv) er) :=
   (((hv.laid _).set (by omega)).set (by omega)).weaken (by omega)
  have B : Hid (Below w.heap.size w (((w1.alloc (.cells #[.slice none 0 0, .int .i64 0, .int .i64 0, .slice none 0 0] 86)).setCell ⟨w.heap.size + 1, 0, none⟩ (.slice none 0 0)).setCell ⟨w.heap.size + 1, 1, none⟩ (.slice none 0 0))) :=
   (((KB.out.trans (b1.mono (by omega))).alloc (by have := b1.size; omega) _).setCell (p := ⟨w.heap.size + 1, 0, none⟩) (by show w.heap.size ≤ w.heap.size + 1; omega) _).setCell (p := ⟨w.heap.size + 1, 1, none⟩) (by show w.heap.size ≤ w.heap.size + 1; omega) _
  clear hv hc hn1 h2
  go_wp2_with fail
  exact bodyPost_ret (v := .tuple #[.agg #[.slice none 0 0, .slice none 0 0], .iface tv uv]) (by simp [results, Tryz.results32, go_sem, Q0.out, Q1.out]) rfl (by rw [E.out]; exact ⟨_, rfl, HV.out, B.out⟩)
 | ok xs =>
  have htr : Sp.tree s.data.toList = .ok (Sp.joinB xs) := by unfold Sp.tree; rw [hr]
  have E : Hid (Sp.tree s.data.toList = .ok (Sp.joinB xs)) := htr
  rw [hr] at hc
  obtain ⟨hp4, hq4, hok⟩ := Sp.tree_small htr
  have HIC : Hid (∀ W, Calls _ _ _ W _) := fun W => isConfig_yes delay narrow unroll th h1 h2 h3 W
  go_enter Tryz.func32, Tryz.ntmps32
  go_wp2_with fail
  generalize (w.alloc (.cells #[.int .i64 0, .int .i64 (delay : Nat), .int .i64 (narrow : Nat), .int .i64 (unroll : Nat), .bool th] 58)).alloc (.cells #[.slice none 0 0, .slice none 0 0] 64) = wz at *
  refine hc.mono ?_
  rintro e w1 ⟨v, ct1, nvv, ns1, rfl, hv, b1, hrow, hnums⟩
  obtain ⟨va, vn, vc, rfl⟩ := blk_slice hv
  obtain ⟨na, nn, nc, rfl⟩ := row_slice0 hrow
  have hB := WI.blk_an hv
  generalize ht : Sp.joinB xs = t at *
  have hns : Sp.natsB t = ns1 := Sp.tree_nums htr hnums
  have hsm : Sp.Small (0, 0) (Sp.pB t) (Sp.qB t) := ⟨by simp, by simp, by simp; omega, by simp; omega⟩
  have hcb := hB.cb
  rw [Sp.cB_sm t (0, 0) hsm] at hcb
  obtain ⟨p, hp⟩ : ∃ p : Nat, ct1.1 = (p : Int) := ⟨Sp.pB t, by rw [← hcb]; simp⟩
  obtain ⟨q, hq⟩ : ∃ q : Nat, ct1.2 = (q : Int) := ⟨Sp.qB t, by rw [← hcb]; simp⟩
  have hpp : p = Sp.pB t := by have := congrArg Prod.fst hcb; simp at this; omega
  have hqq : q = Sp.qB t := by have := congrArg Prod.snd hcb; simp at this; omega
  obtain ⟨c1, c2⟩ := ct1
  simp only at hp hq
  subst hp hq
  simp only
  have kp := below_alloc1 w1 (.cells #[.slice va vn vc, .int .i64 (p : Nat), .int .i64 (q : Nat), .slice na nn nc] 86)
  have hz2 : (w1.alloc (.cells #[.slice va vn vc, .int .i64 (p : Nat), .int .i64 (q : Nat), .slice na nn nc] 86)).heap[w.heap.size + 1]? = some (.cells #[.slice none 0 0, .slice none 0 0] 64) := heap_alloc_old (by rw [b1.block _ (by omega)]; exact K1.out)
  have hc2 : (w1.alloc (.cells #[.slice va vn vc, .int .i64 (p : Nat), .int .i64 (q : Nat), .slice na nn nc] 86)).heap[w.heap.size]? = some (.cells #[.int .i64 0, .int .i64 (delay : Nat), .int .i64 (narrow : Nat), .int .i64 (unroll : Nat), .bool th] 58) := heap_alloc_old (by rw [b1.block _ (by omega)]; exact K0.out)
  have hg2 := heap_alloc_new w1 (.cells #[.slice va vn vc, .int .i64 (p : Nat), .int .i64 (q : Nat), .slice na nn nc] 86)
  have hLw := KB.out.trans (b1.mono (by omega))
  have HNA : Hid (NumsAt w1 (.slice na nn nc) ns1) := numsAt_of hrow
  have hlen : ns1.length ≤ 800 := by rw [← hns]; exact Sp.tree_few htr
  have hn7 : ∀ n ∈ ns1, n ≤ 32767 := fun n hn => by
   have := hok (n : Int) (by rw [Sp.nuB_nats, hns]; exact List.mem_map.2 ⟨n, hn, rfl⟩)
   have := this.2
   omega
  obtain ⟨ma, mn, mc, hma⟩ : ∃ a n c, (if th then Value.slice na nn nc else .slice none 0 0) = .slice a n c := by cases th <;> exact ⟨_, _, _, rfl⟩
  have HTH : Hid (∀ W, Calls Tryz.prog 53 #[.agg #[.slice va vn vc, .int .i64 (p : Nat), .int .i64 (q : Nat), .slice na nn nc], .agg #[.int .i64 0, .int .i64 (delay : Nat), .int .i64 (narrow : Nat), .int .i64 (unroll : Nat), .bool th]] W fun e w' => e = .returned (.slice ma mn mc) ∧ Below W.heap.size W w') := fun W => by
   have := thresholds_calls va vn vc (p : Nat) (q : Nat) na nn nc 0 (delay : Nat) (narrow : Nat) (unroll : Nat) th W
   rw [hma] at this
   exact this
  obtain ⟨ns, hnse⟩ : ∃ ns, ns = if th then ns1 else [] := ⟨_, rfl⟩
  have HNM : Hid (NumsAt w1 (.slice ma mn mc) ns) := by
   unfold Hid
   rw [← hma, hnse]
   cases th
   ·exact ⟨none, 0, rfl, fun h => absurd rfl h⟩
   ·exact HNA.out
  have hlen2 : ns.length ≤ 1000 := by
   rw [hnse]
   split
   ·omega
   ·exact Nat.zero_le _
  have hn72 : ∀ n ∈ ns, n ≤ 32767 := fun n hn => by
   rw [hnse] at hn
   split at hn
   ·exact hn7 n hn
   ·cases hn
  have HST : Hid (stepsFrom ns = stepsAt th t) := by unfold Hid stepsAt; rw [hns, hnse]
  have HIN : Hid (∀ W, Below w1.heap.size w1 W → Calls Tryz.prog 52 #[.slice ma mn mc] W fun e w' => ∃ u, e = .returned (.agg #[u]) ∧ RowS W.heap.size w' u (stepsFrom ns) ∧ Below W.heap.size W w') := fun W hW => iv_new _ ns W (HNM.out.below hW) hlen2 hn72
  have hsl : (stepsFrom ns).length ≤ 1000000 := by rw [stepsFrom_len]; omega
  have hse : stepsFrom ns ≠ [] := by unfold stepsFrom; simp
  have HRP : Hid (∀ W u, Below w1.heap.size w1 W → RowS w1.heap.size W u (stepsFrom ns) → Calls Tryz.prog 51 #[.agg #[.slice va vn vc, .int .i64 (p : Nat), .int .i64 (q : Nat), .slice na nn nc], .agg #[.int .i64 0, .int .i64 (delay : Nat), .int .i64 (narrow : Nat), .int .i64 (unroll : Nat), .bool th], .iface 133 (.agg #[u])] W fun r w' => ∃ v, r = .returned v ∧ RepAt W.heap.size w' v (Sp.reportOf (Sp.ivDom (stepsFrom ns)) ⟨delay, narrow, unroll⟩ t) ∧ Below W.heap.size W w') := fun W u hW hu => by
   have hd := does_of hu hse (by omega)
   have hbw := hLw.trans (hW.mono hLw.size)
   have := WI.Report_calls W (stepsFrom ns) (.agg #[u]) 0 delay narrow unroll th p q (by omega) (by omega) (by omega) (by omega) (.slice va vn vc) (.slice na nn nc) ⟨_, _, _, rfl⟩ ⟨_, _, _, rfl⟩ t ⟨hd, hT.below hbw hL.size, Nat.le_trans hL.size hbw.size⟩ hsm wz.heap.size w1.heap.size w1 (fun k _ h2 _ => hW.block k h2) hW.size hB
   refine this.mono ?_
   rintro r w' ⟨g, h, rfl, e1, e2, e3, e4, e5⟩
   have hl := Sp.report_len (Sp.ivDom (stepsFrom ns)) ⟨delay, narrow, unroll⟩ t hsm
   generalize Sp.reportOf (Sp.ivDom (stepsFrom ns)) ⟨delay, narrow, unroll⟩ t = F at *
   exact ⟨_, rfl, repAt_mk F p q (by rw [hpp]; exact hl.1) (by rw [hqq]; exact hl.2) e1 e2 e3 e4, e5⟩
  have HB : Hid (WI.BlA (0, 0) wz.heap.size w1.heap.size w1 (.slice va vn vc) t ((p : Int), (q : Int))) := hB
  have HW1 : Hid (Below w.heap.size w w1) := hLw
  have HT : Hid (Turns w) := hT
  have HG : Hid (11 ≤ w.heap.size) := hL.size
  have HKP : Hid (Below w1.heap.size w1 _) := kp
  have HZ2 : Hid (_ = _) := hz2
  have HC2 : Hid (_ = _) := hc2
  have HG2 : Hid (_ = _) := hg2
  have d0 := cell_of hc2 0 (v := .int .i64 0) rfl
  have d1 := cell_of hc2 1 (v := .int .i64 (delay : Nat)) rfl
  have d2 := cell_of hc2 2 (v := .int .i64 (narrow : Nat)) rfl
  have d3 := cell_of hc2 3 (v := .int .i64 (unroll : Nat)) rfl
  have d4 := cell_of hc2 4 (v := .bool th) rfl
  have HPP : Hid (p = Sp.pB t ∧ q = Sp.qB t) := ⟨hpp, hqq⟩
  have hls : w.heap.size + 1 < w1.heap.size := by have := b1.size; omega
  clear hc hv hrow hnums hB hT hL kp hz2 hc2 hg2 hr ht hcb b1 hLw hpp hqq hma hnse hn7 hn72
  go_wp2_with fail
  refine (HIC.out _).mono ?_
  rintro r w3 ⟨rfl, b3⟩
  have hb3 : Below w1.heap.size w1 w3 := HKP.out.trans (b3.mono HKP.out.size)
  have hz3 := (b3.block _ (heap_lt HZ2.out)).trans HZ2.out
  have hc3 := (b3.block _ (heap_lt HC2.out)).trans HC2.out
  have hg3 := (b3.block _ (heap_lt HG2.out)).trans HG2.out
  have e0 := cell_of hc3 0 (v := .int .i64 0) rfl
  have HB3 : Hid (Below w1.heap.size w1 w3.drew) := hb3.drew
  have HZ3 : Hid (_ = _) := hz3
  have HC3 : Hid (_ = _) := hc3
  have HG3 : Hid (_ = _) := hg3
  clear b3 hb3 hz3 hc3 hg3 d0 d1 d2 d3 d4 HZ2 HC2 HG2 HKP HIC
  go_wp2_with fail
  refine wp_region_held_drew (S := fun w' : World => (w'.heap[w.heap.size]? = some (.cells #[.int .i64 0, .int .i64 (delay : Nat), .int .i64 (narrow : Nat), .int .i64 (unroll : Nat), .bool th] 58) ∧ w'.heap[w1.heap.size]? = some (.cells #[.slice va vn vc, .int .i64 (p : Nat), .int .i64 (q : Nat), .slice na nn nc] 86)) ∧ ∃ c : Array Value, c.size = 2 ∧ w'.heap[w.heap.size + 1]? = some (.cells c 64)) (by kernel_rfl) ⟨⟨HC3.out, HG3.out⟩, _, rfl, HZ3.out⟩ (fun hHeld => ?_)
  clear e0
  refine tk 0 (.agg #[.slice va vn vc, .int .i64 (p : Nat), .int .i64 (q : Nat), .slice na nn nc]) rfl (fun w' h => by (have d0 := cell_of h.1.2 0 (v := .slice va vn vc) rfl); (have d1 := cell_of h.1.2 1 (v := .int .i64 (p : Nat)) rfl); (have d2 := cell_of h.1.2 2 (v := .int .i64 (q : Nat)) rfl); have d3 := cell_of h.1.2 3 (v := .slice na nn nc) rfl; go_simp) hHeld ?_
  simp only [Act.put]
  refine tk 1 (.agg #[.int .i64 0, .int .i64 (delay : Nat), .int .i64 (narrow : Nat), .int .i64 (unroll : Nat), .bool th]) rfl (fun w' h => by (have d0 := cell_of h.1.1 0 (v := .int .i64 0) rfl); (have d1 := cell_of h.1.1 1 (v := .int .i64 (delay : Nat)) rfl); (have d2 := cell_of h.1.1 2 (v := .int .i64 (narrow : Nat)) rfl); (have d3 := cell_of h.1.1 3 (v := .int .i64 (unroll : Nat)) rfl); have d4 := cell_of h.1.1 4 (v := .bool th) rfl; go_simp) hHeld ?_
  simp only [Act.put]
  refine tk 2 (.agg #[.slice va vn vc, .int .i64 (p : Nat), .int .i64 (q : Nat), .slice na nn nc]) rfl (fun w' h => by (have d0 := cell_of h.1.2 0 (v := .slice va vn vc) rfl); (have d1 := cell_of h.1.2 1 (v := .int .i64 (p : Nat)) rfl); (have d2 := cell_of h.1.2 2 (v := .int .i64 (q : Nat)) rfl); have d3 := cell_of h.1.2 3 (v := .slice na nn nc) rfl; go_simp) hHeld ?_
  simp only [Act.put]
  refine tk 3 (.agg #[.int .i64 0, .int .i64 (delay : Nat), .int .i64 (narrow : Nat), .int .i64 (unroll : Nat), .bool th]) rfl (fun w' h => by (have d0 := cell_of h.1.1 0 (v := .int .i64 0) rfl); (have d1 := cell_of h.1.1 1 (v := .int .i64 (delay : Nat)) rfl); (have d2 := cell_of h.1.1 2 (v := .int .i64 (narrow : Nat)) rfl); (have d3 := cell_of h.1.1 3 (v := .int .i64 (unroll : Nat)) rfl); have d4 := cell_of h.1.1 4 (v := .bool th) rfl; go_simp) hHeld ?_
  simp only [Act.put]
  refine rd1 4 fun K hK => ?_
  simp only [gsb, gsa]
  go_simp
  refine (HTH.out _).mono ?_
  rintro r w4 ⟨rfl, b4⟩
  go_wp2_with fail
  have b4' : Below w1.heap.size w1 w4 := HB3.out.trans (b4.mono HB3.out.size)
  have B4 : Hid (Below w1.heap.size w1 w4) := b4'
  obtain ⟨zc, hzc, hzz⟩ := hHeld.2
  have hz4 := (b4.block _ (heap_lt hzz)).trans hzz
  have hS4 : (w4.heap[w.heap.size]? = some (.cells #[.int .i64 0, .int .i64 (delay : Nat), .int .i64 (narrow : Nat), .int .i64 (unroll : Nat), .bool th] 58) ∧ w4.heap[w1.heap.size]? = some (.cells #[.slice va vn vc, .int .i64 (p : Nat), .int .i64 (q : Nat), .slice na nn nc] 86)) := ⟨(b4.block _ (heap_lt hHeld.1.1)).trans hHeld.1.1, (b4.block _ (heap_lt hHeld.1.2)).trans hHeld.1.2⟩
  refine hK.out _ _ ⟨hS4, zc, hzc, hz4⟩ (fun hHeld => ?_)
  clear hK K b4 b4' hzz
  refine rd1 5 fun K hK => ?_
  simp only [gsb]
  go_simp
  refine (HIN.out _ B4.out).mono ?_
  rintro r w5 ⟨u, rfl, hu, b5⟩
  go_wp2_with fail
  have B5 : Hid (Below w1.heap.size w1 w5) := B4.out.trans (b5.mono B4.out.size)
  have HU : Hid (RowS w1.heap.size w5 u (stepsFrom ns)) := ownsRow9_weaken hu B4.out.size
  have hz5 := (b5.block _ (heap_lt hz4)).trans hz4
  have hS5 : (w5.heap[w.heap.size]? = some (.cells #[.int .i64 0, .int .i64 (delay : Nat), .int .i64 (narrow : Nat), .int .i64 (unroll : Nat), .bool th] 58) ∧ w5.heap[w1.heap.size]? = some (.cells #[.slice va vn vc, .int .i64 (p : Nat), .int .i64 (q : Nat), .slice na nn nc] 86)) := ⟨(b5.block _ (heap_lt hHeld.1.1)).trans hHeld.1.1, (b5.block _ (heap_lt hHeld.1.2)).trans hHeld.1.2⟩
  refine hK.out _ _ ⟨hS5, zc, hzc, hz5⟩ (fun hHeld => ?_)
  clear hK K b5 hu hz4 hS4
  refine tk 6 (.iface 133 (.agg #[u])) rfl (fun w' h => by go_simp) hHeld ?_
  simp only [Act.put]
  refine rd1 7 fun K hK => ?_
  simp only [gsb, gsa]
  go_simp
  refine (HRP.out _ u B5.out HU.out).mono ?_
  rintro r w6 ⟨v, rfl, ⟨g, h, rfl, g1, g2, g3, g4⟩, b6⟩
  go_wp2_with fail
  have B6 : Hid (Below w1.heap.size w1 w6) := B5.out.trans (b6.mono B5.out.size)
  have hz6 := (b6.block _ (heap_lt hz5)).trans hz5
  have hS6 : (w6.heap[w.heap.size]? = some (.cells #[.int .i64 0, .int .i64 (delay : Nat), .int .i64 (narrow : Nat), .int .i64 (unroll : Nat), .bool th] 58) ∧ w6.heap[w1.heap.size]? = some (.cells #[.slice va vn vc, .int .i64 (p : Nat), .int .i64 (q : Nat), .slice na nn nc] 86)) := ⟨(b6.block _ (heap_lt hHeld.1.1)).trans hHeld.1.1, (b6.block _ (heap_lt hHeld.1.2)).trans hHeld.1.2⟩
  refine hK.out _ _ ⟨hS6, zc, hzc, hz6⟩ (fun _ => ?_)
  clear hK K b6 hz5 hS5
  have hl5 := B5.out.size
  generalize hFF : Sp.reportOf (Sp.ivDom (stepsFrom ns)) ⟨delay, narrow, unroll⟩ t = F at *
  have HFF : Hid (Sp.reportOf (Sp.ivDom (stepsFrom ns)) ⟨delay, narrow, unroll⟩ t = F) := hFF
  have l1 : (w.heap.size + 1) ≠ w.heap.size := by omega
  obtain ⟨ra, hra⟩ : ∃ ra, ra = #[Value.slice (some ⟨g, 0, none⟩) F.1.length F.1.length, .slice (some ⟨h, 0, none⟩) F.2.length F.2.length] := ⟨_, rfl⟩
  have r2 : ra.size = 2 := by rw [hra]; rfl
  have hr0 := setCells_whole hz6 (d := ra) (by rw [r2, hzc])
  have hre : RepAt w.heap.size (w6.setCells (w.heap.size + 1) 0 ra.toList) (.agg ra) F := ⟨g, h, (by rw [hra]; rfl), by omega, by omega, (setCells_other _ _ _ _ (by omega)).trans g3, (setCells_other _ _ _ _ (by omega)).trans g4⟩
  have hBf : Below w.heap.size w (w6.setCells (w.heap.size + 1) 0 ra.toList) := setCells_below (b := w.heap.size + 1) (by omega) _ _ _ _ (HW1.out.trans (B6.out.mono HW1.out.size))
  refine rd1 8 fun K hK => ?_
  simp only [gsb]
  rw [if_pos (by rfl)]
  refine wp_store_mid _ _ _ rfl _ _ ra rfl (by rw [hra]; rfl) (by rw [r2, ← hzc]; exact there_of hz6) (by rw [WI.infoRp, r2]) (by rw [hra]; simp [Value.oneCell']) ?_
  refine hK.out _ _ ⟨⟨(setCells_other _ _ _ _ (by omega)).trans hS6.1, (setCells_other _ _ _ _ (by omega)).trans hS6.2⟩, ra, r2, hr0⟩ (fun hHeld => ?_)
  clear hK K
  clear hra
  refine rd1 9 fun K hK => ?_
  simp only [gsb]
  go_simp
  refine hK.out _ _ hHeld (fun _ => ?_)
  clear hK K
  refine wpAnyH_done (by kernel_rfl) ?_ _
  have HR0 : Hid (_ = _) := hr0
  have HRE : Hid (RepAt _ _ _ _) := hre
  have HBF : Hid (Below w.heap.size w _) := hBf
  clear hr0 hre hBf hHeld hS6 hz6 g3 g4 hFF
  go_wp2_with fail
  have hl : (loadVar 64 ⟨w.heap.size + 1, 0, none⟩).run Tryz.prog (w6.setCells (w.heap.size + 1) 0 ra.toList) = .ok (.agg ra) (w6.setCells (w.heap.size + 1) 0 ra.toList) := by
   have := run_loadVar_mid (P := Tryz.prog) (w6.setCells (w.heap.size + 1) 0 ra.toList) (w.heap.size + 1) 0 64 ra.toList _ (range_of HR0.out) Tryz.underlying64 rfl (by rw [WI.infoRp]; simp [r2])
   simpa using this
  refine bodyPost_ret (v := .tuple #[.agg ra, .nilIface]) (results_an _ _ rfl rfl hl) rfl ?_
  rw [E.out]
  exact ⟨_, rfl, by rw [← HST.out, HFF.out]; exact HRE.out, HBF.out⟩
end Go.Proofs.YtiopfihjmkfdmaaGreatDoor
