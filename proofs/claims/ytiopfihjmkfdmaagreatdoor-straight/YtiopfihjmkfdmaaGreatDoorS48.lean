import Derived.Test.YtiopfihjmkfdmaaGreatDoorS20
import Derived.Test.YtiopfihjmkfdmaaGreatDoorS46
import Derived.Test.YtiopfihjmkfdmaaGreatDoorS47
namespace Go.Proofs.YtiopfihjmkfdmaaGreatDoor
open Go.RowKit
set_option maxRecDepth 100000
set_option maxHeartbeats 4000000
abbrev FdI := List (Option (Fin 8 → Sp.Iv)) × List Nat
structure RepV (w : World) (a : Option Addr) (n : Nat) (a' : Option Addr) (m : Nat) (F : FdI) : Prop where
 n : n = F.1.length
 m : m = F.2.length
 f : ∀ i s, F.1[i]? = some s → ∃ g, a = some ⟨g, 0, none⟩ ∧ w.rangeAt g (i * 17) (WI.fcC s).toList
 s : ∀ i k, F.2[i]? = some k → ∃ g, a' = some ⟨g, 0, none⟩ ∧ w.cell? ⟨g, i, none⟩ = some (.int .i64 ((k : Nat) : Int))
theorem range_below {w w' : World} {g o : Nat} {l : List Value} (h : w.rangeAt g o l) (b : Below w.heap.size w w') : w'.rangeAt g o l := fun j v hv => by
 have h1 := h j v hv
 rw [b.cell (p := ⟨g, o + j, none⟩) (cell_lt h1)]
 exact h1
theorem RepV.below {w w' : World} {a : Option Addr} {n : Nat} {a' : Option Addr} {m : Nat} {F : FdI} (h : RepV w a n a' m F) (b : Below w.heap.size w w') : RepV w' a n a' m F := by
 refine ⟨h.n, h.m, fun i s hs => ?_, fun i k hk => ?_⟩
 ·obtain ⟨g, h1, h2⟩ := h.f i s hs
  exact ⟨g, h1, range_below h2 b⟩
 ·obtain ⟨g, h1, h2⟩ := h.s i k hk
  exact ⟨g, h1, by rw [b.cell (p := ⟨g, i, none⟩) (cell_lt h2)]; exact h2⟩
theorem RepV.none (w : World) : RepV w none 0 none 0 ([], []) := ⟨rfl, rfl, fun i s h => by simp at h, fun i s h => by simp at h⟩
theorem RepV.of {B : Nat} {w : World} {v : Value} {F : FdI} (h : RepAt B w v F) : ∃ a n a' m, v = .agg #[.slice a n n, .slice a' m m] ∧ RepV w a n a' m F := by
 obtain ⟨g, h, rfl, _, _, h1, h2⟩ := h
 refine ⟨_, _, _, _, rfl, rfl, rfl, fun i s hs => ⟨g, rfl, ?_⟩, fun i k hk => ⟨h, rfl, ?_⟩⟩
 ·intro j v hv
  have hj : j < 17 := by
   have := (List.getElem?_eq_some_iff.1 hv).1
   rw [WI.fcC_len] at this
   exact this
  refine cell_of h1 _ ?_
  rw [List.getElem?_toArray]
  show (F.1.flatMap fun s => (WI.fcC s).toList)[i * 17 + j]? = some v
  rw [chunk_get WI.fcC_len F.1 i s j hs hj]
  exact hv
 ·exact cell_of h2 i (WI.siteCells_get hk)
theorem op_neF {op : Oper} {a : Act} {w : World} {K : Act → World → Prop} {Q : Exit → Act → World → Prop} {x y : Operand} (ho : op.op = .binOp .neq 76 x y 76) {s : WI.ST} (hx : a.eval x = .agg (WI.fcC s)) (hy : a.eval y = .agg (WI.fcC s)) (h : K (a.put op.dst (.bool false)) w) : op.wp Tryz.prog a w K Q := by
 have hg : (eqGuard .neq 76 x y (.agg (WI.fcC s)) (.agg (WI.fcC s))).run Tryz.prog w = .ok () w := by
  have h0 : Tryz.prog.eqGuardType Tryz.prog.depth 76 = false := by kernel_rfl
  unfold eqGuard
  simp [h0, go_sem]
 have he : (Op.equal 76 (.agg (WI.fcC s)) (.agg (WI.fcC s))).run Tryz.prog w = .ok true w := eqFc s w
 unfold Oper.wp execOp
 simp only [ho, hx, hy, binOp, Sem.run_bind, Sem.run_pure, Result.andThen_ok, hg, he, Bool.not_true]
 exact h
theorem rd_fc {op : Oper} {a : Act} {w : World} {K : Act → World → Prop} {Q : Exit → Act → World → Prop} (x : Operand) (ho : op.op = .load 76 x) {b o : Nat} (hx : a.eval x = .pointer (some ⟨b, o, none⟩)) {c : Array Value} (hr : w.rangeAt b o c.toList) (hc : c.size = 17)
  (h : K (a.put op.dst (.agg c)) w) : op.wp Tryz.prog a w K Q := by
 refine wp_load_mid 76 x ho b o hx c.toList _ hr Tryz.underlying76 rfl (by rw [WI.infoFc]; simp [hc]) ?_
 simpa using h
structure SrAt (w : World) (xa ya : Array Value) (a : Option Addr) (n : Nat) (a' : Option Addr) (m : Nat) (b : Option Addr) (b' : Option Addr) (F : FdI) (W : World) : Prop where
 x : W.heap[w.heap.size]? = some (.cells xa 64)
 y : W.heap[w.heap.size + 1]? = some (.cells ya 64)
 f : RepV W a n a' m F
 g : RepV W b n b' m F
 b : Below w.heap.size w W
theorem SrAt.drew {w : World} {xa ya : Array Value} {a : Option Addr} {n : Nat} {a' : Option Addr} {m : Nat} {b : Option Addr} {b' : Option Addr} {F : FdI} {W : World} (h : SrAt w xa ya a n a' m b b' F W) : SrAt w xa ya a n a' m b b' F W.drew :=
 ⟨h.x, h.y, h.f.below (Below.refl _ _).drew, h.g.below (Below.refl _ _).drew, h.b.drew⟩
theorem sameReports_calls (a : Option Addr) (n c : Nat) (a' : Option Addr) (m c' : Nat) (b : Option Addr) (d : Nat) (b' : Option Addr) (d' : Nat) (F : FdI) (w : World) (h1 : RepV w a n a' m F) (h2 : RepV w b n b' m F) (hn : n ≤ 1000000) (hm : m ≤ 1000000) :
  Calls Tryz.prog 34 #[.agg #[.slice a n c, .slice a' m c'], .agg #[.slice b n d, .slice b' m d']] w fun e w' => e = .returned (.bool true) ∧ Below w.heap.size w w' := by
 obtain ⟨k0, k1, kb⟩ := laid2b (w := w) (o1 := .cells #[.slice a n c, .slice a' m c'] 64) (o2 := .cells #[.slice b n d, .slice b' m d'] 64) (Below.refl _ _)
 have hnF := h1.n
 have hmF := h1.m
 obtain ⟨xa, hxa⟩ : ∃ xa, xa = #[Value.slice a n c, .slice a' m c'] := ⟨_, rfl⟩
 obtain ⟨ya, hya⟩ : ∃ ya, ya = #[Value.slice b n d, .slice b' m d'] := ⟨_, rfl⟩
 have H0 : Hid (SrAt w xa ya a n a' m b b' F ((w.alloc (.cells #[.slice a n c, .slice a' m c'] 64)).alloc (.cells #[.slice b n d, .slice b' m d'] 64))) := by
  rw [hxa, hya]
  exact ⟨k0, k1, h1.below kb, h2.below kb, kb⟩
 have x0 : xa[0]? = some (.slice a n c) := by rw [hxa]; rfl
 have x1 : xa[1]? = some (.slice a' m c') := by rw [hxa]; rfl
 have y0 : ya[0]? = some (.slice b n d) := by rw [hya]; rfl
 have y1 : ya[1]? = some (.slice b' m d') := by rw [hya]; rfl
 have HNF : Hid (n = F.1.length) := hnF
 have HMF : Hid (m = F.2.length) := hmF
 have hn2 : (n : Int) ≤ 1000000 := by omega
 have hm2 : (m : Int) ≤ 1000000 := by omega
 clear k0 k1 kb hxa hya h1 h2 hnF hmF
 go_enter Tryz.func34, Tryz.ntmps34
 go_wp2_with fail
 generalize (w.alloc (.cells #[.slice a n c, .slice a' m c'] 64)).alloc (.cells #[.slice b n d, .slice b' m d'] 64) = W0 at *
 go_loopw [5] (fun v5 wr => ∃ j : Nat, j ≤ n ∧ v5 = .int .i64 j ∧ Hid (SrAt w xa ya a n a' m b b' F wr)) (fun v5 _ => n - (intOf v5).toNat)
 case atStart => exact ⟨0, Nat.zero_le _, rfl, H0.out⟩
 case round =>
  obtain ⟨j, hj, rfl, hq⟩ := hrel
  clear H0
  have c0 := cell_of hq.out.x 0 x0
  have c1 := cell_of hq.out.x 1 x1
  by_cases hjlt : j < n
  ·have hji : ((j : Nat) : Int) < ((n : Nat) : Int) := by omega
   obtain ⟨s, hs⟩ : ∃ s, F.1[j]? = some s := ⟨_, List.getElem?_eq_getElem (by have := HNF.out; omega)⟩
   obtain ⟨g, rfl, _⟩ := hq.out.f.f j s hs
   obtain ⟨g', rfl, _⟩ := hq.out.g.f j s hs
   have f17 := WI.fcC_size s
   have H1 : Hid (SrAt w xa ya (some ⟨g, 0, none⟩) n a' m (some ⟨g', 0, none⟩) b' F wr.drew) := hq.out.drew
   have hrg : ∀ W, SrAt w xa ya (some ⟨g, 0, none⟩) n a' m (some ⟨g', 0, none⟩) b' F W → W.rangeAt g (j * 17) (WI.fcC s).toList ∧ W.rangeAt g' (j * 17) (WI.fcC s).toList := fun W hW => by
    obtain ⟨q, e, r1⟩ := hW.f.f j s hs
    obtain ⟨q', e', r2⟩ := hW.g.f j s hs
    cases e
    cases e'
    exact ⟨r1, r2⟩
   have HRG : Hid (∀ W, _ → _) := hrg
   clear hrg
   go_wp2_with fail
   refine wp_region_held_drew (S := fun w' : World => SrAt w xa ya (some ⟨g, 0, none⟩) n a' m (some ⟨g', 0, none⟩) b' F w') (by kernel_rfl) H1.out (fun hHeld => ?_)
   refine tk 0 (.pointer (some ⟨w.heap.size, 0, none⟩)) rfl (fun w' h => by go_simp) hHeld ?_
   simp only [Act.put]
   refine tk 1 (.slice (some ⟨g, 0, none⟩) n c) rfl (fun w' h => by have q0 := cell_of h.x 0 x0; go_simp) hHeld ?_
   simp only [Act.put]
   refine tk 2 (.int .i64 (j : Nat)) rfl (fun w' h => by go_simp) hHeld ?_
   simp only [Act.put]
   refine tk 3 (.pointer (some ⟨g, j * 17, none⟩)) rfl (fun w' h => by go_simp) hHeld ?_
   simp only [Act.put]
   refine tk 5 (.pointer (some ⟨w.heap.size + 1, 0, none⟩)) rfl (fun w' h => by go_simp) hHeld ?_
   simp only [Act.put]
   refine tk 6 (.slice (some ⟨g', 0, none⟩) n d) rfl (fun w' h => by have q0 := cell_of h.y 0 y0; go_simp) hHeld ?_
   simp only [Act.put]
   refine tk 7 (.int .i64 (j : Nat)) rfl (fun w' h => by go_simp) hHeld ?_
   simp only [Act.put]
   refine tk 8 (.pointer (some ⟨g', j * 17, none⟩)) rfl (fun w' h => by go_simp) hHeld ?_
   simp only [Act.put]
   refine wpAnyH_ready (rs := [4, 9]) (by kernel_rfl) (by simp) ?_
   refine AllReadyH.cons (i := 4) (o := _) (by rfl) ?_ (AllReadyH.cons (i := 9) (o := _) (by rfl) ?_ AllReadyH.nil)
   ·intro K hK
    simp only [gsb, gsa]
    rw [if_pos (by rfl)]
    refine rd_fc _ rfl rfl (HRG.out _ hHeld).1 f17 ?_
    simp only [Act.put]
    refine hK.out _ _ hHeld (fun hHeld => ?_)
    clear hK K
    refine rd1 9 fun K hK => ?_
    simp only [gsb, gsa]
    rw [if_pos (by rfl)]
    refine rd_fc _ rfl rfl (HRG.out _ hHeld).2 f17 ?_
    simp only [Act.put]
    refine hK.out _ _ hHeld (fun hHeld => ?_)
    clear hK K
    refine rd1 10 fun K hK => ?_
    simp only [gsb, gsa]
    rw [if_pos (by rfl)]
    refine op_neF rfl rfl rfl ?_
    simp only [Act.put]
    refine hK.out _ _ hHeld (fun _ => ?_)
    clear hK K
    refine wpAnyH_done (by kernel_rfl) ?_ _
    go_wp2_with fail
    exact ⟨⟨j + 1, by omega, by go_num, H1⟩, by simp [intOf]; omega⟩
   ·intro K hK
    simp only [gsb, gsa]
    rw [if_pos (by rfl)]
    refine rd_fc _ rfl rfl (HRG.out _ hHeld).2 f17 ?_
    simp only [Act.put]
    refine hK.out _ _ hHeld (fun hHeld => ?_)
    clear hK K
    refine rd1 4 fun K hK => ?_
    simp only [gsb, gsa]
    rw [if_pos (by rfl)]
    refine rd_fc _ rfl rfl (HRG.out _ hHeld).1 f17 ?_
    simp only [Act.put]
    refine hK.out _ _ hHeld (fun hHeld => ?_)
    clear hK K
    refine rd1 10 fun K hK => ?_
    simp only [gsb, gsa]
    rw [if_pos (by rfl)]
    refine op_neF rfl rfl rfl ?_
    simp only [Act.put]
    refine hK.out _ _ hHeld (fun _ => ?_)
    clear hK K
    refine wpAnyH_done (by kernel_rfl) ?_ _
    go_wp2_with fail
    exact ⟨⟨j + 1, by omega, by go_num, H1⟩, by simp [intOf]; omega⟩
  ·obtain rfl : j = n := by omega
   go_wp2_with fail
   clear c0 c1
   go_loopw [6] (fun v6 ws => ∃ k : Nat, k ≤ m ∧ v6 = .int .i64 k ∧ Hid (SrAt w xa ya a j a' m b b' F ws)) (fun v6 _ => m - (intOf v6).toNat)
   case atStart => exact ⟨0, Nat.zero_le _, rfl, hq⟩
   case round =>
    obtain ⟨k, hk, rfl, hq2⟩ := hrel
    clear hq
    have c0 := cell_of hq2.out.x 0 x0
    have c1 := cell_of hq2.out.x 1 x1
    by_cases hklt : k < m
    ·have hki : ((k : Nat) : Int) < ((m : Nat) : Int) := by omega
     obtain ⟨v, hv⟩ : ∃ v, F.2[k]? = some v := ⟨_, List.getElem?_eq_getElem (by have := HMF.out; omega)⟩
     obtain ⟨g, rfl, _⟩ := hq2.out.f.s k v hv
     obtain ⟨g', rfl, _⟩ := hq2.out.g.s k v hv
     have H1 : Hid (SrAt w xa ya a j (some ⟨g, 0, none⟩) m b (some ⟨g', 0, none⟩) F wr.drew) := hq2.out.drew
     have hrg : ∀ W, SrAt w xa ya a j (some ⟨g, 0, none⟩) m b (some ⟨g', 0, none⟩) F W → W.cell? ⟨g, k, none⟩ = some (.int .i64 ((v : Nat) : Int)) ∧ W.cell? ⟨g', k, none⟩ = some (.int .i64 ((v : Nat) : Int)) := fun W hW => by
      obtain ⟨q, e, r1⟩ := hW.f.s k v hv
      obtain ⟨q', e', r2⟩ := hW.g.s k v hv
      cases e
      cases e'
      exact ⟨r1, r2⟩
     have HRG : Hid (∀ W, _ → _) := hrg
     clear hrg
     go_wp2_with fail
     refine wp_region_held_drew (S := fun w' : World => SrAt w xa ya a j (some ⟨g, 0, none⟩) m b (some ⟨g', 0, none⟩) F w') (by kernel_rfl) H1.out (fun hHeld => ?_)
     refine tk 0 (.pointer (some ⟨w.heap.size, 1, none⟩)) rfl (fun w' h => by go_simp) hHeld ?_
     simp only [Act.put]
     refine tk 1 (.slice (some ⟨g, 0, none⟩) m c') rfl (fun w' h => by have q0 := cell_of h.x 1 x1; go_simp) hHeld ?_
     simp only [Act.put]
     refine tk 2 (.int .i64 (k : Nat)) rfl (fun w' h => by go_simp) hHeld ?_
     simp only [Act.put]
     refine tk 3 (.pointer (some ⟨g, k, none⟩)) rfl (fun w' h => by go_simp) hHeld ?_
     simp only [Act.put]
     refine tk 4 (.int .i64 (v : Nat)) rfl (fun w' h => by obtain ⟨q0, q1⟩ := HRG.out w' h; go_simp) hHeld ?_
     simp only [Act.put]
     refine tk 5 (.pointer (some ⟨w.heap.size + 1, 1, none⟩)) rfl (fun w' h => by go_simp) hHeld ?_
     simp only [Act.put]
     refine tk 6 (.slice (some ⟨g', 0, none⟩) m d') rfl (fun w' h => by have q0 := cell_of h.y 1 y1; go_simp) hHeld ?_
     simp only [Act.put]
     refine tk 7 (.int .i64 (k : Nat)) rfl (fun w' h => by go_simp) hHeld ?_
     simp only [Act.put]
     refine tk 8 (.pointer (some ⟨g', k, none⟩)) rfl (fun w' h => by go_simp) hHeld ?_
     simp only [Act.put]
     refine tk 9 (.int .i64 (v : Nat)) rfl (fun w' h => by obtain ⟨q0, q1⟩ := HRG.out w' h; go_simp) hHeld ?_
     simp only [Act.put]
     refine rd1 10 fun K hK => ?_
     simp only [gsb, gsa]
     go_simp
     refine hK.out _ _ hHeld (fun _ => ?_)
     clear hK K
     refine wpAnyH_done (by kernel_rfl) ?_ _
     go_wp2_with fail
     exact ⟨⟨k + 1, by omega, by go_num, H1⟩, by simp [intOf]; omega⟩
    ·obtain rfl : k = m := by omega
     have HB : Hid (Below w.heap.size w _) := hq2.out.b
     go_wp2_with fail
     go_ret
     exact ⟨rfl, HB.out⟩
end Go.Proofs.YtiopfihjmkfdmaaGreatDoor
namespace Go.Proofs.YtiopfihjmkfdmaaGreatDoor
open Go.RowKit
set_option maxRecDepth 100000
set_option maxHeartbeats 1000000
theorem num_calls (n : Int) (w : World) : Calls Tryz.prog 18 #[.int .i64 n] w fun e w' => e = .returned (.int .i64 n) ∧ w' = w := by
 go_enter Tryz.func18, Tryz.ntmps18
 go_wp2_with fail
 go_ret
 exact ⟨rfl, rfl⟩
theorem Laid2.after {w w' : World} (h : Laid2 w) (hb : Below w.heap.size w w') : Laid2 w' := h.below hb h.laid.size
end Go.Proofs.YtiopfihjmkfdmaaGreatDoor
namespace Go.Proofs.YtiopfihjmkfdmaaGreatDoor
open Go.RowKit
set_option maxRecDepth 100000
set_option maxHeartbeats 4000000
def knowSrc : Sp.Bs := [97, 32, 61, 32, 54, 59, 32, 98, 32, 61, 32, 97, 32, 47, 32, 50, 59, 32, 114, 101, 97, 100, 32, 99, 59, 32, 97, 115, 115, 101, 114, 116, 32, 99, 32, 33, 61, 32, 49, 59]
def knowT : Sp.Bl := .assign 0 (.num 6) (.assign 1 (.bin 3 (.name 0) (.num 2)) (.read 2 (.assert 3 (.name 2) (.num 1) .nil)))
theorem know_tree : Sp.tree knowSrc = .ok knowT := by kernel_rfl
def knowF : FdI := Sp.reportOf (Sp.ivDom (stepsAt false knowT)) ⟨0, 0, 0⟩ knowT
theorem know_len : knowF.1.length = 5 := by kernel_rfl
theorem know_sites : knowF.2 = [1, 2] := by kernel_rfl
theorem know_fact : (knowF.1[4]?).map (fun s => s.map fun e => e 1) = some (some ⟨3, 3⟩) := by kernel_rfl
theorem know_cells {w : World} {g : Nat} (h : w.heap[g]? = some (.cells (WI.fcCells knowF.1).toArray 76)) :
  w.cell? ⟨g, 68, none⟩ = some (.bool true) ∧ w.cell? ⟨g, 71, none⟩ = some (.int .i64 3) ∧ w.cell? ⟨g, 72, none⟩ = some (.int .i64 3) := by
 obtain ⟨s, hs, h1⟩ := Option.map_eq_some_iff.1 know_fact
 obtain ⟨e, rfl, h2⟩ := Option.map_eq_some_iff.1 h1
 have hget : ∀ j v, j < 17 → (WI.fcC (some e))[j]? = some v → w.cell? ⟨g, 4 * 17 + j, none⟩ = some v := fun j v hj hv => by
  refine cell_of h _ ?_
  rw [List.getElem?_toArray]
  show (knowF.1.flatMap fun s => (WI.fcC s).toList)[4 * 17 + j]? = some v
  rw [chunk_get WI.fcC_len knowF.1 4 (some e) j hs hj, Array.getElem?_toList]
  exact hv
 have hl : (List.ofFn fun k => WI.vTell (e k))[1]? = some (3, 3) := by
  rw [List.getElem?_ofFn, dif_pos (by omega)]
  show some (WI.vTell (e 1)) = _
  rw [h2]
  rfl
 obtain ⟨a1, a2⟩ := stA_get (fun v : Int × Int => .int .i64 v.1) (fun v : Int × Int => .int .i64 v.2) (r := true) hl
 exact ⟨hget 0 _ (by omega) rfl, hget 3 _ (by omega) a1, hget 4 _ (by omega) a2⟩
theorem knows_calls (w : World) (hL : Laid2 w) (hT : Turns w) : Calls Tryz.prog 29 #[.int .i64 0] w fun e w' => e = .returned (.bool true) ∧ Below w.heap.size w w' := by
 have hc := Analyze_calls ⟨#[97, 32, 61, 32, 54, 59, 32, 98, 32, 61, 32, 97, 32, 47, 32, 50, 59, 32, 114, 101, 97, 100, 32, 99, 59, 32, 97, 115, 115, 101, 114, 116, 32, 99, 32, 33, 61, 32, 49, 59]⟩ 0 0 0 false w (by decide) hL.laid hT (by omega) (by omega) (by omega)
 rw [show (⟨#[97, 32, 61, 32, 54, 59, 32, 98, 32, 61, 32, 97, 32, 47, 32, 50, 59, 32, 114, 101, 97, 100, 32, 99, 59, 32, 97, 115, 115, 101, 114, 116, 32, 99, 32, 33, 61, 32, 49, 59]⟩ : ByteArray).data.toList = knowSrc from rfl, know_tree] at hc
 go_enter Tryz.func29, Tryz.ntmps29
 go_wp2_with fail
 refine hc.mono ?_
 rintro e w1 ⟨v, rfl, hv, b1⟩
 have hv' : RepAt w.heap.size w1 v knowF := hv
 obtain ⟨g, h, rfl, _, _, h1, h2⟩ := hv'
 rw [know_len, know_sites]
 rw [know_sites] at h2
 obtain ⟨k0, k1, k2⟩ := know_cells h1
 have s0 := cell_of h2 0 (v := .int .i64 1) rfl
 have s1 := cell_of h2 1 (v := .int .i64 2) rfl
 have lg := heap_lt h1
 have lh := heap_lt h2
 simp only [List.length_cons, List.length_nil]
 clear hc hv h1 h2
 go_wp2_with fail
 have hn := heap_alloc_new w1 (.cells #[.slice (some ⟨g, 0, none⟩) 5 5, .slice (some ⟨h, 0, none⟩) 2 2] 64)
 have b3 := below_alloc1 w1 (.cells #[.slice (some ⟨g, 0, none⟩) 5 5, .slice (some ⟨h, 0, none⟩) 2 2] 64)
 refine (Tell_nil _).mono ?_
 rintro e w2 ⟨rfl, b4⟩
 have hn2 : w2.heap[w1.heap.size]? = some (.cells #[.slice (some ⟨g, 0, none⟩) 5 5, .slice (some ⟨h, 0, none⟩) 2 2] 64) := by rw [b4.block _ (by simp)]; exact hn
 have m0 := cell_of hn2 0 (v := .slice (some ⟨g, 0, none⟩) 5 5) rfl
 have m1 := cell_of hn2 1 (v := .slice (some ⟨h, 0, none⟩) 2 2) rfl
 have b5 : Below w1.heap.size w1 w2 := b3.trans (b4.mono (by simp))
 have j0 : w2.cell? ⟨g, 68, none⟩ = some (.bool true) := by rw [b5.cell (p := ⟨g, 68, none⟩) lg]; exact k0
 have j1 : w2.cell? ⟨g, 71, none⟩ = some (.int .i64 3) := by rw [b5.cell (p := ⟨g, 71, none⟩) lg]; exact k1
 have j2 : w2.cell? ⟨g, 72, none⟩ = some (.int .i64 3) := by rw [b5.cell (p := ⟨g, 72, none⟩) lg]; exact k2
 have i0 : w2.cell? ⟨h, 0, none⟩ = some (.int .i64 1) := by rw [b5.cell (p := ⟨h, 0, none⟩) lh]; exact s0
 have i1 : w2.cell? ⟨h, 1, none⟩ = some (.int .i64 2) := by rw [b5.cell (p := ⟨h, 1, none⟩) lh]; exact s1
 have lw : w1.heap.size < w2.heap.size := heap_lt hn2
 have n1 : g ≠ w2.heap.size := by omega
 have n2 : h ≠ w2.heap.size := by omega
 have n3 : w1.heap.size ≠ w2.heap.size := by omega
 have bv := below_alloc1 w2 (.cells #[.int .i64 3, .int .i64 3] 73)
 have lg2 : g < w2.heap.size := by omega
 have lh2 : h < w2.heap.size := by omega
 have p0 := (bv.cell (p := ⟨g, 68, none⟩) lg2).trans j0
 have p1 := (bv.cell (p := ⟨h, 0, none⟩) lh2).trans i0
 have p2 := (bv.cell (p := ⟨h, 1, none⟩) lh2).trans i1
 have p3 := (bv.cell (p := ⟨w1.heap.size, 0, none⟩) lw).trans m0
 have p4 := (bv.cell (p := ⟨w1.heap.size, 1, none⟩) lw).trans m1
 have hB := b1.trans (b5.mono b1.size)
 have HB : Hid (Below w.heap.size w w2) := hB
 clear hn hn2 b3 b4 k0 k1 k2 s0 s1 hB b1 b5 bv
 go_wp2_with (go_at_call 18; refine (num_calls _ _).mono ?_; rintro e w4 ⟨rfl, rfl⟩)
 go_ret
 exact ⟨rfl, HB.out.alloc HB.out.size _⟩
end Go.Proofs.YtiopfihjmkfdmaaGreatDoor
namespace Go.Proofs.YtiopfihjmkfdmaaGreatDoor
open Go.RowKit
set_option maxRecDepth 100000
set_option maxHeartbeats 4000000
theorem raw_mod (n : Int) (M : Nat) (hM : 0 < M) (hM2 : M ≤ 1000) : ∃ F : Nat, F < M ∧ RowKit.wrap64 ((IntKind.u64.wrap n).tmod M) = (F : Int) := by
 have h0 : 0 ≤ IntKind.u64.wrap n := by
  simp only [IntKind.wrap_u64]
  omega
 have h1 : (IntKind.u64.wrap n).tmod M = (IntKind.u64.wrap n) % M := Int.tmod_eq_emod_of_nonneg h0
 have h2 := Int.emod_nonneg (IntKind.u64.wrap n) (show (M : Int) ≠ 0 by omega)
 have h3 := Int.emod_lt_of_pos (IntKind.u64.wrap n) (show (0 : Int) < M by omega)
 refine ⟨((IntKind.u64.wrap n) % M).toNat, by omega, ?_⟩
 rw [h1]
 unfold RowKit.wrap64
 omega
theorem config_calls (delay narrow unroll : Int) (th : Bool) :
  ∃ d n u : Nat, d ≤ 4 ∧ n ≤ 3 ∧ u ≤ 3 ∧ ∀ w : World, Calls Tryz.prog 30 #[.int .i64 0, .int .i64 delay, .int .i64 narrow, .int .i64 unroll, .bool th] w fun e w' => e = .returned (.agg #[.int .i64 0, .int .i64 (d : Nat), .int .i64 (n : Nat), .int .i64 (u : Nat), .bool th]) ∧ Below w.heap.size w w' := by
 obtain ⟨d, hd, h1⟩ := raw_mod delay 5 (by omega) (by omega)
 obtain ⟨n, hn, h2⟩ := raw_mod narrow 4 (by omega) (by omega)
 obtain ⟨u, hu, h3⟩ := raw_mod unroll 4 (by omega) (by omega)
 have h1 : RowKit.wrap64 ((IntKind.u64.wrap delay).tmod 5) = (d : Int) := h1
 have h2 : RowKit.wrap64 ((IntKind.u64.wrap narrow).tmod 4) = (n : Int) := h2
 have h3 : RowKit.wrap64 ((IntKind.u64.wrap unroll).tmod 4) = (u : Int) := h3
 refine ⟨d, n, u, by omega, by omega, by omega, fun w => ?_⟩
 go_enter Tryz.func30, Tryz.ntmps30
 go_wp2_with fail
 have hB : Below w.heap.size w ((w.alloc (.cells #[.int .i64 0, .int .i64 (d : Nat), .int .i64 (n : Nat), .int .i64 (u : Nat), .bool th] 58)).alloc (.cells #[.int .i64 0, .int .i64 (d : Nat), .int .i64 (n : Nat), .int .i64 (u : Nat), .bool th] 58)) := by go_grown
 go_returns
 exact ⟨rfl, hB⟩
def WordPost (s W : ByteArray) (w : World) (e : Ending) (w' : World) : Prop := (∃ r, e = .returned (.bool r) ∧ (r = false → ¬ Sp.HasW W.data.toList s.data.toList)) ∧ w' = w
theorem extract_list (s : ByteArray) (j n : Nat) : (s.extract j (j + n)).toList = (s.data.toList.drop j).take n := by
 rw [ByteArray.toList_eq]
 have e : (s.extract j (j + n)).data = s.data.extract j (j + n) := by simp
 rw [e, Array.toList_extract]
 simp [List.extract, List.take_drop]
theorem word_calls (s W : ByteArray) (hs : s.size ≤ 1048576) (hW : 0 < W.size) (hW2 : W.size ≤ 1000) (w : World) :
  Calls Tryz.prog 33 #[.string s, .string W] w (WordPost s W w) := by
 have hs2 : (s.size : Int) ≤ 1048576 := by omega
 have hW3 : (W.size : Int) ≤ 1000 := by omega
 go_enter Tryz.func33, Tryz.ntmps33
 go_wp2_with fail
 go_loopw [5] (fun v5 wr => ∃ j : Nat, j ≤ s.size + 1 ∧ v5 = .int .i64 j ∧ wr = w ∧ Hid (∀ k, k < j → ¬ ∃ b, s.data.toList = s.data.toList.take k ++ W.data.toList ++ b)) (fun v5 _ => s.size + 1 - (intOf v5).toNat)
 case atStart => exact ⟨0, Nat.zero_le _, rfl, rfl, fun k hk => by omega⟩
 case round =>
  obtain ⟨j, hj, rfl, rfl, hq⟩ := hrel
  by_cases hjl : j + W.size ≤ s.size
  ·have hji : ((j : Nat) : Int) + ((W.size : Nat) : Int) ≤ ((s.size : Nat) : Int) := by omega
   cases hx : ((s.extract j (j + W.size)).toList == W.toList) with
   | true =>
    go_wp2_with fail
    go_ret
    exact ⟨⟨true, rfl, fun h => by cases h⟩, rfl⟩
   | false =>
    have HQ : Hid (∀ k, k < j + 1 → ¬ ∃ b, s.data.toList = s.data.toList.take k ++ W.data.toList ++ b) := by
     intro k hk
     by_cases hkj : k < j
     ·exact hq.out k hkj
     ·obtain rfl : k = j := by omega
      rintro ⟨b, hb⟩
      have hl : (s.data.toList.take k).length = k := by
       rw [List.length_take]
       have : s.data.toList.length = s.size := rfl
       omega
      have e : (s.extract k (k + W.size)).toList = W.toList := by
       rw [extract_list, hb, List.append_assoc, List.drop_append_of_le_length (by rw [hl]; exact Nat.le_refl _), List.drop_of_length_le (by rw [hl]; exact Nat.le_refl _), List.nil_append, List.take_append_of_le_length (by show W.size ≤ W.data.toList.length; exact Nat.le_refl _), List.take_of_length_le (by show W.data.toList.length ≤ W.size; exact Nat.le_refl _), ByteArray.toList_eq]
      rw [e] at hx
      simp at hx
    go_wp2_with fail
    exact ⟨⟨j + 1, by omega, by go_num, trivial, HQ⟩, by simp [intOf]; omega⟩
  ·have hji : ¬ ((j : Nat) : Int) + ((W.size : Nat) : Int) ≤ ((s.size : Nat) : Int) := by omega
   have HN : Hid (¬ Sp.HasW W.data.toList s.data.toList) := by
    rintro ⟨a, b, hab⟩
    have h1 := congrArg List.length hab
    simp only [List.length_append] at h1
    have h2 : s.data.toList.length = s.size := rfl
    have h3 : W.data.toList.length = W.size := rfl
    refine hq.out a.length (by omega) ⟨b, ?_⟩
    have : s.data.toList.take a.length = a := by rw [hab, List.append_assoc, List.take_append_of_le_length (Nat.le_refl _), List.take_of_length_le (Nat.le_refl _)]
    rw [this]
    exact hab
   go_wp2_with fail
   go_ret
   exact ⟨⟨false, rfl, fun _ => HN.out⟩, rfl⟩
end Go.Proofs.YtiopfihjmkfdmaaGreatDoor
namespace Go.Proofs.YtiopfihjmkfdmaaGreatDoor
open Go.RowKit
set_option maxRecDepth 100000
set_option maxHeartbeats 8000000
def ansF (th : Bool) (P : Sp.Pol) (src : Sp.Bs) : FdI × Nat := match Sp.tree src with
 | .ok t => (Sp.reportOf (Sp.ivDom (stepsAt th t)) P t, 0)
 | .error er => (([], []), er.1)
def ErrV (w : World) (v : Value) (k : Nat) : Prop := (v = .nilIface ∧ k = 0) ∨ ∃ B er, ErrAt w B v er ∧ er.1 = k
theorem ErrV.laid {w : World} {v : Value} {k : Nat} (h : ErrV w v k) (o : Obj) : ErrV (w.alloc o) v k := by
 rcases h with h | ⟨B, er, h, e⟩
 ·exact .inl h
 ·exact .inr ⟨B, er, h.laid o, e⟩
theorem tell_any {w : World} {v : Value} {k : Nat} (h : ErrV w v k) (hL : Laid2 w) : ∃ a : Nat, Calls Tryz.prog 16 #[v] w fun e w' => e = .returned (.tuple #[.int .i64 (k : Nat), .int .i64 (a : Nat)]) ∧ Below w.heap.size w w' := by
 rcases h with ⟨rfl, rfl⟩ | ⟨B, er, h, rfl⟩
 ·exact ⟨0, Tell_nil w⟩
 ·exact ⟨er.2, Tell_err v er B w hL.et hL.laid.size h⟩
theorem ansF_small (th : Bool) (P : Sp.Pol) (src : Sp.Bs) : (ansF th P src).1.1.length ≤ 1000 ∧ (ansF th P src).1.2.length ≤ 1000 := by
 unfold ansF
 cases h : Sp.tree src with
 | error er => exact ⟨Nat.zero_le _, Nat.zero_le _⟩
 | ok t =>
  obtain ⟨h1, h2, _⟩ := Sp.tree_small h
  have hl := Sp.report_len (Sp.ivDom (stepsAt th t)) P t ⟨by simp, by simp, by simp; omega, by simp; omega⟩
  refine ⟨?_, ?_⟩
  ·show (Sp.reportOf (Sp.ivDom (stepsAt th t)) P t).1.length ≤ 1000
   rw [hl.1]; omega
  ·show (Sp.reportOf (Sp.ivDom (stepsAt th t)) P t).2.length ≤ 1000
   rw [hl.2]; omega
theorem Analyze_out (s : ByteArray) (delay narrow unroll : Nat) (th : Bool) (w : World) (hs : s.size ≤ 1048576) (hL : Laid2 w) (hT : Turns w) (h1 : delay ≤ 4) (h2 : narrow ≤ 3) (h3 : unroll ≤ 3) :
  Calls Tryz.prog 32 #[.string s, .agg #[.int .i64 0, .int .i64 (delay : Nat), .int .i64 (narrow : Nat), .int .i64 (unroll : Nat), .bool th]] w fun e w' => ∃ a n c a' m c' ev, e = .returned (.tuple #[.agg #[.slice a n c, .slice a' m c'], ev]) ∧ RepV w' a n a' m (ansF th ⟨delay, narrow, unroll⟩ s.data.toList).1 ∧ ErrV w' ev (ansF th ⟨delay, narrow, unroll⟩ s.data.toList).2 ∧ Below w.heap.size w w' := by
 refine (Analyze_calls s delay narrow unroll th w hs hL.laid hT h1 h2 h3).mono ?_
 intro e w' h
 unfold ansF
 cases ht : Sp.tree s.data.toList with
 | error er =>
  rw [ht] at h
  obtain ⟨v, rfl, hv, b⟩ := h
  exact ⟨none, 0, 0, none, 0, 0, v, rfl, RepV.none w', .inr ⟨_, er, hv, rfl⟩, b⟩
 | ok t =>
  rw [ht] at h
  obtain ⟨v, rfl, hv, b⟩ := h
  obtain ⟨a, n, a', m, rfl, hr⟩ := RepV.of hv
  exact ⟨a, n, n, a', m, m, .nilIface, rfl, hr, .inl ⟨rfl, rfl⟩, b⟩
theorem ans_straight (th th' : Bool) (P P' : Sp.Pol) (src : Sp.Bs) (h : ¬ Sp.HasW Sp.wWhile src) : ansF th P src = ansF th' P' src := by
 unfold ansF
 cases ht : Sp.tree src with
 | error er => rfl
 | ok t =>
  have := Sp.straight (stepsAt th t) (stepsAt th' t) P P' t (Sp.tree_noLoop ht h)
  exact congrArg (fun F : FdI => (F, 0)) this
theorem ans_printed (th : Bool) (P : Sp.Pol) (s t : Sp.Bs) (h : Sp.print s = .ok t) (hl : t.length ≤ 400) : ansF th P t = ansF th P s ∧ (ansF th P s).2 = 0 := by
 obtain ⟨ys, h1, h2⟩ := Sp.Bk.parse_printed Sp.Tr s t h hl
 unfold ansF Sp.tree
 rw [h1, h2]
 exact ⟨rfl, rfl⟩
theorem Turns.after {w w' : World} (h : Turns w) (hL : Laid2 w) (b : Below w.heap.size w w') : Turns w' := h.below b hL.laid.size
end Go.Proofs.YtiopfihjmkfdmaaGreatDoor
