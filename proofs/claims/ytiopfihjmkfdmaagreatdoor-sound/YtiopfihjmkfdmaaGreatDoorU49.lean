import Derived.Test.YtiopfihjmkfdmaaGreatDoorU47
import Derived.Test.YtiopfihjmkfdmaaGreatDoorU48
namespace Go.Proofs.YtiopfihjmkfdmaaGreatDoor
open Go.RowKit
set_option maxRecDepth 100000
set_option maxHeartbeats 4000000
abbrev FdI := List (Option (Fin 8 → Sp.Iv)) × List Nat
structure RepV (w : World) (a : Option Addr) (n : Nat) (a' : Option Addr) (m : Nat) (F : FdI) : Prop where
 n : n = F.1.length
 m : m = F.2.length
 f : ∀ i s, F.1[i]? = some s → ∃ g, a = some ⟨g, 0, none⟩ ∧ w.rangeAt g (i * 17) (WI.fcC s).toList
 s : ∀ i k, F.2[i]? = some k → ∃ g, a' = some ⟨g, 0, none⟩ ∧ w.cell? ⟨g, i, none⟩ = some (.int .i64 ((k : Nat) : Int))
theorem range_below {w w' : World} {g o : Nat} {l : List Value} (h : w.rangeAt g o l) (b : Below w.heap.size w w') : w'.rangeAt g o l := fun j v hv => by
 have h1 := h j v hv
 rw [b.cell (p := ⟨g, o + j, none⟩) (cell_lt h1)]
 exact h1
theorem RepV.below {w w' : World} {a : Option Addr} {n : Nat} {a' : Option Addr} {m : Nat} {F : FdI} (h : RepV w a n a' m F) (b : Below w.heap.size w w') : RepV w' a n a' m F := by
 refine ⟨h.n, h.m, fun i s hs => ?_, fun i k hk => ?_⟩
 ·obtain ⟨g, h1, h2⟩ := h.f i s hs
  exact ⟨g, h1, range_below h2 b⟩
 ·obtain ⟨g, h1, h2⟩ := h.s i k hk
  exact ⟨g, h1, by rw [b.cell (p := ⟨g, i, none⟩) (cell_lt h2)]; exact h2⟩
theorem RepV.none (w : World) : RepV w none 0 none 0 ([], []) := ⟨rfl, rfl, fun i s h => by simp at h, fun i s h => by simp at h⟩
theorem RepV.of {B : Nat} {w : World} {v : Value} {F : FdI} (h : RepAt B w v F) : ∃ a n a' m, v = .agg #[.slice a n n, .slice a' m m] ∧ RepV w a n a' m F := by
 obtain ⟨g, h, rfl, _, _, h1, h2⟩ := h
 refine ⟨_, _, _, _, rfl, rfl, rfl, fun i s hs => ⟨g, rfl, ?_⟩, fun i k hk => ⟨h, rfl, ?_⟩⟩
 ·intro j v hv
  have hj : j < 17 := by
   have := (List.getElem?_eq_some_iff.1 hv).1
   rw [WI.fcC_len] at this
   exact this
  refine cell_of h1 _ ?_
  rw [List.getElem?_toArray]
  show (F.1.flatMap fun s => (WI.fcC s).toList)[i * 17 + j]? = some v
  rw [chunk_get WI.fcC_len F.1 i s j hs hj]
  exact hv
 ·exact cell_of h2 i (WI.siteCells_get hk)
structure SrAt (w : World) (xa ya : Array Value) (a : Option Addr) (n : Nat) (a' : Option Addr) (m : Nat) (b : Option Addr) (b' : Option Addr) (F : FdI) (W : World) : Prop where
 x : W.heap[w.heap.size]? = some (.cells xa 64)
 y : W.heap[w.heap.size + 1]? = some (.cells ya 64)
 f : RepV W a n a' m F
 g : RepV W b n b' m F
 b : Below w.heap.size w W
theorem SrAt.drew {w : World} {xa ya : Array Value} {a : Option Addr} {n : Nat} {a' : Option Addr} {m : Nat} {b : Option Addr} {b' : Option Addr} {F : FdI} {W : World} (h : SrAt w xa ya a n a' m b b' F W) : SrAt w xa ya a n a' m b b' F W.drew :=
 ⟨h.x, h.y, h.f.below (Below.refl _ _).drew, h.g.below (Below.refl _ _).drew, h.b.drew⟩
end Go.Proofs.YtiopfihjmkfdmaaGreatDoor
namespace Go.Proofs.YtiopfihjmkfdmaaGreatDoor
open Go.RowKit
set_option maxRecDepth 100000
set_option maxHeartbeats 1000000
theorem num_calls (n : Int) (w : World) : Calls Tryz.prog 18 #[.int .i64 n] w fun e w' => e = .returned (.int .i64 n) ∧ w' = w := by
 go_enter Tryz.func18, Tryz.ntmps18
 go_wp2_with fail
 go_ret
 exact ⟨rfl, rfl⟩
theorem Laid2.after {w w' : World} (h : Laid2 w) (hb : Below w.heap.size w w') : Laid2 w' := h.below hb h.laid.size
end Go.Proofs.YtiopfihjmkfdmaaGreatDoor
namespace Go.Proofs.YtiopfihjmkfdmaaGreatDoor
open Go.RowKit
set_option maxRecDepth 100000
set_option maxHeartbeats 4000000
def knowSrc : Sp.Bs := [97, 32, 61, 32, 54, 59, 32, 98, 32, 61, 32, 97, 32, 47, 32, 50, 59, 32, 114, 101, 97, 100, 32, 99, 59, 32, 97, 115, 115, 101, 114, 116, 32, 99, 32, 33, 61, 32, 49, 59]
def knowT : Sp.Bl := .assign 0 (.num 6) (.assign 1 (.bin 3 (.name 0) (.num 2)) (.read 2 (.assert 3 (.name 2) (.num 1) .nil)))
theorem know_tree : Sp.tree knowSrc = .ok knowT := by kernel_rfl
def knowF : FdI := Sp.reportOf (Sp.ivDom (stepsAt false knowT)) ⟨0, 0, 0⟩ knowT
theorem know_len : knowF.1.length = 5 := by kernel_rfl
theorem know_sites : knowF.2 = [1, 2] := by kernel_rfl
theorem know_fact : (knowF.1[4]?).map (fun s => s.map fun e => e 1) = some (some ⟨3, 3⟩) := by kernel_rfl
theorem know_cells {w : World} {g : Nat} (h : w.heap[g]? = some (.cells (WI.fcCells knowF.1).toArray 76)) :
  w.cell? ⟨g, 68, none⟩ = some (.bool true) ∧ w.cell? ⟨g, 71, none⟩ = some (.int .i64 3) ∧ w.cell? ⟨g, 72, none⟩ = some (.int .i64 3) := by
 obtain ⟨s, hs, h1⟩ := Option.map_eq_some_iff.1 know_fact
 obtain ⟨e, rfl, h2⟩ := Option.map_eq_some_iff.1 h1
 have hget : ∀ j v, j < 17 → (WI.fcC (some e))[j]? = some v → w.cell? ⟨g, 4 * 17 + j, none⟩ = some v := fun j v hj hv => by
  refine cell_of h _ ?_
  rw [List.getElem?_toArray]
  show (knowF.1.flatMap fun s => (WI.fcC s).toList)[4 * 17 + j]? = some v
  rw [chunk_get WI.fcC_len knowF.1 4 (some e) j hs hj, Array.getElem?_toList]
  exact hv
 have hl : (List.ofFn fun k => WI.vTell (e k))[1]? = some (3, 3) := by
  rw [List.getElem?_ofFn, dif_pos (by omega)]
  show some (WI.vTell (e 1)) = _
  rw [h2]
  rfl
 obtain ⟨a1, a2⟩ := stA_get (fun v : Int × Int => .int .i64 v.1) (fun v : Int × Int => .int .i64 v.2) (r := true) hl
 exact ⟨hget 0 _ (by omega) rfl, hget 3 _ (by omega) a1, hget 4 _ (by omega) a2⟩
theorem knows_calls (w : World) (hL : Laid2 w) (hT : Turns w) : Calls Tryz.prog 29 #[.int .i64 0] w fun e w' => e = .returned (.bool true) ∧ Below w.heap.size w w' := by
 have hc := Analyze_calls ⟨#[97, 32, 61, 32, 54, 59, 32, 98, 32, 61, 32, 97, 32, 47, 32, 50, 59, 32, 114, 101, 97, 100, 32, 99, 59, 32, 97, 115, 115, 101, 114, 116, 32, 99, 32, 33, 61, 32, 49, 59]⟩ 0 0 0 false w (by decide) hL.laid hT (by omega) (by omega) (by omega)
 rw [show (⟨#[97, 32, 61, 32, 54, 59, 32, 98, 32, 61, 32, 97, 32, 47, 32, 50, 59, 32, 114, 101, 97, 100, 32, 99, 59, 32, 97, 115, 115, 101, 114, 116, 32, 99, 32, 33, 61, 32, 49, 59]⟩ : ByteArray).data.toList = knowSrc from rfl, know_tree] at hc
 go_enter Tryz.func29, Tryz.ntmps29
 go_wp2_with fail
 refine hc.mono ?_
 rintro e w1 ⟨v, rfl, hv, b1⟩
 have hv' : RepAt w.heap.size w1 v knowF := hv
 obtain ⟨g, h, rfl, _, _, h1, h2⟩ := hv'
 rw [know_len, know_sites]
 rw [know_sites] at h2
 obtain ⟨k0, k1, k2⟩ := know_cells h1
 have s0 := cell_of h2 0 (v := .int .i64 1) rfl
 have s1 := cell_of h2 1 (v := .int .i64 2) rfl
 have lg := heap_lt h1
 have lh := heap_lt h2
 simp only [List.length_cons, List.length_nil]
 clear hc hv h1 h2
 go_wp2_with fail
 have hn := heap_alloc_new w1 (.cells #[.slice (some ⟨g, 0, none⟩) 5 5, .slice (some ⟨h, 0, none⟩) 2 2] 64)
 have b3 := below_alloc1 w1 (.cells #[.slice (some ⟨g, 0, none⟩) 5 5, .slice (some ⟨h, 0, none⟩) 2 2] 64)
 refine (Tell_nil _).mono ?_
 rintro e w2 ⟨rfl, b4⟩
 have hn2 : w2.heap[w1.heap.size]? = some (.cells #[.slice (some ⟨g, 0, none⟩) 5 5, .slice (some ⟨h, 0, none⟩) 2 2] 64) := by rw [b4.block _ (by simp)]; exact hn
 have m0 := cell_of hn2 0 (v := .slice (some ⟨g, 0, none⟩) 5 5) rfl
 have m1 := cell_of hn2 1 (v := .slice (some ⟨h, 0, none⟩) 2 2) rfl
 have b5 : Below w1.heap.size w1 w2 := b3.trans (b4.mono (by simp))
 have j0 : w2.cell? ⟨g, 68, none⟩ = some (.bool true) := by rw [b5.cell (p := ⟨g, 68, none⟩) lg]; exact k0
 have j1 : w2.cell? ⟨g, 71, none⟩ = some (.int .i64 3) := by rw [b5.cell (p := ⟨g, 71, none⟩) lg]; exact k1
 have j2 : w2.cell? ⟨g, 72, none⟩ = some (.int .i64 3) := by rw [b5.cell (p := ⟨g, 72, none⟩) lg]; exact k2
 have i0 : w2.cell? ⟨h, 0, none⟩ = some (.int .i64 1) := by rw [b5.cell (p := ⟨h, 0, none⟩) lh]; exact s0
 have i1 : w2.cell? ⟨h, 1, none⟩ = some (.int .i64 2) := by rw [b5.cell (p := ⟨h, 1, none⟩) lh]; exact s1
 have lw : w1.heap.size < w2.heap.size := heap_lt hn2
 have n1 : g ≠ w2.heap.size := by omega
 have n2 : h ≠ w2.heap.size := by omega
 have n3 : w1.heap.size ≠ w2.heap.size := by omega
 have bv := below_alloc1 w2 (.cells #[.int .i64 3, .int .i64 3] 73)
 have lg2 : g < w2.heap.size := by omega
 have lh2 : h < w2.heap.size := by omega
 have p0 := (bv.cell (p := ⟨g, 68, none⟩) lg2).trans j0
 have p1 := (bv.cell (p := ⟨h, 0, none⟩) lh2).trans i0
 have p2 := (bv.cell (p := ⟨h, 1, none⟩) lh2).trans i1
 have p3 := (bv.cell (p := ⟨w1.heap.size, 0, none⟩) lw).trans m0
 have p4 := (bv.cell (p := ⟨w1.heap.size, 1, none⟩) lw).trans m1
 have hB := b1.trans (b5.mono b1.size)
 have HB : Hid (Below w.heap.size w w2) := hB
 clear hn hn2 b3 b4 k0 k1 k2 s0 s1 hB b1 b5 bv
 go_wp2_with (go_at_call 18; refine (num_calls _ _).mono ?_; rintro e w4 ⟨rfl, rfl⟩)
 go_ret
 exact ⟨rfl, HB.out.alloc HB.out.size _⟩
end Go.Proofs.YtiopfihjmkfdmaaGreatDoor
namespace Go.Proofs.YtiopfihjmkfdmaaGreatDoor
open Go.RowKit
set_option maxRecDepth 100000
set_option maxHeartbeats 4000000
theorem raw_mod (n : Int) (M : Nat) (hM : 0 < M) (hM2 : M ≤ 1000) : ∃ F : Nat, F < M ∧ RowKit.wrap64 ((IntKind.u64.wrap n).tmod M) = (F : Int) := by
 have h0 : 0 ≤ IntKind.u64.wrap n := by
  simp only [IntKind.wrap_u64]
  omega
 have h1 : (IntKind.u64.wrap n).tmod M = (IntKind.u64.wrap n) % M := Int.tmod_eq_emod_of_nonneg h0
 have h2 := Int.emod_nonneg (IntKind.u64.wrap n) (show (M : Int) ≠ 0 by omega)
 have h3 := Int.emod_lt_of_pos (IntKind.u64.wrap n) (show (0 : Int) < M by omega)
 refine ⟨((IntKind.u64.wrap n) % M).toNat, by omega, ?_⟩
 rw [h1]
 unfold RowKit.wrap64
 omega
theorem config_calls (delay narrow unroll : Int) (th : Bool) :
  ∃ d n u : Nat, d ≤ 4 ∧ n ≤ 3 ∧ u ≤ 3 ∧ ∀ w : World, Calls Tryz.prog 30 #[.int .i64 0, .int .i64 delay, .int .i64 narrow, .int .i64 unroll, .bool th] w fun e w' => e = .returned (.agg #[.int .i64 0, .int .i64 (d : Nat), .int .i64 (n : Nat), .int .i64 (u : Nat), .bool th]) ∧ Below w.heap.size w w' := by
 obtain ⟨d, hd, h1⟩ := raw_mod delay 5 (by omega) (by omega)
 obtain ⟨n, hn, h2⟩ := raw_mod narrow 4 (by omega) (by omega)
 obtain ⟨u, hu, h3⟩ := raw_mod unroll 4 (by omega) (by omega)
 have h1 : RowKit.wrap64 ((IntKind.u64.wrap delay).tmod 5) = (d : Int) := h1
 have h2 : RowKit.wrap64 ((IntKind.u64.wrap narrow).tmod 4) = (n : Int) := h2
 have h3 : RowKit.wrap64 ((IntKind.u64.wrap unroll).tmod 4) = (u : Int) := h3
 refine ⟨d, n, u, by omega, by omega, by omega, fun w => ?_⟩
 go_enter Tryz.func30, Tryz.ntmps30
 go_wp2_with fail
 have hB : Below w.heap.size w ((w.alloc (.cells #[.int .i64 0, .int .i64 (d : Nat), .int .i64 (n : Nat), .int .i64 (u : Nat), .bool th] 58)).alloc (.cells #[.int .i64 0, .int .i64 (d : Nat), .int .i64 (n : Nat), .int .i64 (u : Nat), .bool th] 58)) := by go_grown
 go_returns
 exact ⟨rfl, hB⟩
end Go.Proofs.YtiopfihjmkfdmaaGreatDoor
namespace Go.Proofs.YtiopfihjmkfdmaaGreatDoor
open Go.RowKit
set_option maxRecDepth 100000
set_option maxHeartbeats 2000000
def runSrc : Sp.Bs := [114, 101, 97, 100, 32, 97, 59, 32, 98, 32, 61, 32, 54, 32, 47, 32, 97, 59]
theorem Sp.run_closed : Sp.run runSrc [2] 9 = .ok ([(0, [0, 0, 0, 0, 0, 0, 0, 0]), (1, [2, 0, 0, 0, 0, 0, 0, 0]), (2, [2, 3, 0, 0, 0, 0, 0, 0])], -1) := by kernel_rfl
theorem in_of_row {base n : Nat} {w : World} {v : Value} {l : List Int} (h : w.ownsRow base 48 1 v n (l.map fun n => .int .i16 n)) (hn : n = l.length) : InAt w.heap.size w v l ∧ ∃ a m c, v = .slice a m c := by
 subst hn
 rcases h.2 with ⟨rfl, hz⟩ | ⟨g, cap, cur, rfl, hb, hh, hnc, _, _, htake⟩
 ·exact ⟨.inl ⟨_, _, rfl, List.eq_nil_of_length_eq_zero hz⟩, _, _, _, rfl⟩
 ·refine ⟨.inr ⟨g, 0, cap, rfl, heap_lt hh, hnc, fun i m hm => ?_⟩, _, _, _, rfl⟩
  rw [Nat.zero_add]
  refine cell_of hh i ?_
  have hl := (List.getElem?_eq_some_iff.1 hm).1
  have h3 : cur.toList[i]? = (l.map fun n => Value.int .i16 n)[i]? := by
   rw [← htake, List.getElem?_take, if_pos (by omega)]
  rw [← Array.getElem?_toList, h3, List.getElem?_map, hm]; rfl
theorem runs_calls (w : World) (hL : Laid2 w) : Calls Tryz.prog 26 #[] w fun e w' => e = .returned (.bool true) ∧ Below w.heap.size w w' := by
 have b0 := below_alloc1 w (.cells #[.int .i16 2] 48)
 have hin : InAt (w.alloc (.cells #[.int .i16 2] 48)).heap.size (w.alloc (.cells #[.int .i16 2] 48)) (.slice (some ⟨w.heap.size, 0, none⟩) 1 1) [2] := by
  refine .inr ⟨w.heap.size, 0, 1, rfl, by simp, Nat.le_refl _, fun i n hn => ?_⟩
  cases i with
  | zero => simp at hn; subst hn; exact cell_of (heap_alloc_new _ _) 0 rfl
  | succ i => simp at hn
 have hc := Run_calls ⟨#[114, 101, 97, 100, 32, 97, 59, 32, 98, 32, 61, 32, 54, 32, 47, 32, 97, 59]⟩ (.slice (some ⟨w.heap.size, 0, none⟩) 1 1) [2] 9 _ (by decide) (hL.laid.below b0 hL.laid.size) hin ⟨_, _, _, rfl⟩
 rw [show (⟨#[114, 101, 97, 100, 32, 97, 59, 32, 98, 32, 61, 32, 54, 32, 47, 32, 97, 59]⟩ : ByteArray).data.toList = runSrc from rfl, Sp.run_closed] at hc
 go_enter Tryz.func26, Tryz.ntmps26
 go_wp2_with fail
 refine hc.mono ?_
 rintro e w1 ⟨v, rfl, ⟨vv, rfl, ho, _⟩, b1⟩
 have hL1 : Laid2 w1 := (hL.after b0).after b1
 have hva := visAt_of ho
 have b2 : Below w.heap.size w w1 := b0.trans (b1.mono (by simp))
 clear hc ho hin
 obtain ⟨ad, cap, rfl, hcap, hcells⟩ := hva
 obtain ⟨g, rfl, hg⟩ := hcells (by simp)
 have k18 : w1.cell? ⟨g, 18, none⟩ = some (.int .i64 2) := hg 18 _ rfl
 have k20 : w1.cell? ⟨g, 20, none⟩ = some (.int .i16 3) := hg 20 _ rfl
 have hgl := cell_lt k18
 clear hg hcells
 go_wp2_with fail
 have hn := heap_alloc_new w1 (.cells #[.slice (some ⟨g, 0, none⟩) 3 cap, .int .i64 (-1)] 41)
 have b3 := below_alloc1 w1 (.cells #[.slice (some ⟨g, 0, none⟩) 3 cap, .int .i64 (-1)] 41)
 refine (Tell_nil _).mono ?_
 rintro e w2 ⟨rfl, b4⟩
 have hn2 : w2.heap[w1.heap.size]? = some (.cells #[.slice (some ⟨g, 0, none⟩) 3 cap, .int .i64 (-1)] 41) := by rw [b4.block _ (by simp)]; exact hn
 have m0 := cell_of hn2 0 (v := .slice (some ⟨g, 0, none⟩) 3 cap) rfl
 have m1 := cell_of hn2 1 (v := .int .i64 (-1)) rfl
 have b5 : Below w1.heap.size w1 w2 := b3.trans (b4.mono (by simp))
 have j18 : w2.cell? ⟨g, 18, none⟩ = some (.int .i64 2) := by rw [b5.cell (p := ⟨g, 18, none⟩) hgl]; exact k18
 have j20 : w2.cell? ⟨g, 20, none⟩ = some (.int .i16 3) := by rw [b5.cell (p := ⟨g, 20, none⟩) hgl]; exact k20
 clear hn hn2 b3 b4 k18 k20
 go_wp2_with (go_at_call 18; refine (num_calls _ _).mono ?_; rintro e w4 ⟨rfl, rfl⟩)
 go_ret
 exact ⟨rfl, b2.trans (b5.mono b2.size)⟩
end Go.Proofs.YtiopfihjmkfdmaaGreatDoor
namespace Go.Proofs.YtiopfihjmkfdmaaGreatDoor
open Go.RowKit
set_option maxRecDepth 100000
set_option maxHeartbeats 8000000
def ansF (th : Bool) (P : Sp.Pol) (src : Sp.Bs) : FdI × Nat := match Sp.tree src with
 | .ok t => (Sp.reportOf (Sp.ivDom (stepsAt th t)) P t, 0)
 | .error er => (([], []), er.1)
def ErrV (w : World) (v : Value) (k : Nat) : Prop := (v = .nilIface ∧ k = 0) ∨ ∃ B er, ErrAt w B v er ∧ er.1 = k
theorem ErrV.laid {w : World} {v : Value} {k : Nat} (h : ErrV w v k) (o : Obj) : ErrV (w.alloc o) v k := by
 rcases h with h | ⟨B, er, h, e⟩
 ·exact .inl h
 ·exact .inr ⟨B, er, h.laid o, e⟩
theorem tell_any {w : World} {v : Value} {k : Nat} (h : ErrV w v k) (hL : Laid2 w) : ∃ a : Nat, Calls Tryz.prog 16 #[v] w fun e w' => e = .returned (.tuple #[.int .i64 (k : Nat), .int .i64 (a : Nat)]) ∧ Below w.heap.size w w' := by
 rcases h with ⟨rfl, rfl⟩ | ⟨B, er, h, rfl⟩
 ·exact ⟨0, Tell_nil w⟩
 ·exact ⟨er.2, Tell_err v er B w hL.et hL.laid.size h⟩
theorem ansF_small (th : Bool) (P : Sp.Pol) (src : Sp.Bs) : (ansF th P src).1.1.length ≤ 1000 ∧ (ansF th P src).1.2.length ≤ 1000 := by
 unfold ansF
 cases h : Sp.tree src with
 | error er => exact ⟨Nat.zero_le _, Nat.zero_le _⟩
 | ok t =>
  obtain ⟨h1, h2, _⟩ := Sp.tree_small h
  have hl := Sp.report_len (Sp.ivDom (stepsAt th t)) P t ⟨by simp, by simp, by simp; omega, by simp; omega⟩
  refine ⟨?_, ?_⟩
  ·show (Sp.reportOf (Sp.ivDom (stepsAt th t)) P t).1.length ≤ 1000
   rw [hl.1]; omega
  ·show (Sp.reportOf (Sp.ivDom (stepsAt th t)) P t).2.length ≤ 1000
   rw [hl.2]; omega
theorem Analyze_out (s : ByteArray) (delay narrow unroll : Nat) (th : Bool) (w : World) (hs : s.size ≤ 1048576) (hL : Laid2 w) (hT : Turns w) (h1 : delay ≤ 4) (h2 : narrow ≤ 3) (h3 : unroll ≤ 3) :
  Calls Tryz.prog 32 #[.string s, .agg #[.int .i64 0, .int .i64 (delay : Nat), .int .i64 (narrow : Nat), .int .i64 (unroll : Nat), .bool th]] w fun e w' => ∃ a n c a' m c' ev, e = .returned (.tuple #[.agg #[.slice a n c, .slice a' m c'], ev]) ∧ RepV w' a n a' m (ansF th ⟨delay, narrow, unroll⟩ s.data.toList).1 ∧ ErrV w' ev (ansF th ⟨delay, narrow, unroll⟩ s.data.toList).2 ∧ Below w.heap.size w w' := by
 refine (Analyze_calls s delay narrow unroll th w hs hL.laid hT h1 h2 h3).mono ?_
 intro e w' h
 unfold ansF
 cases ht : Sp.tree s.data.toList with
 | error er =>
  rw [ht] at h
  obtain ⟨v, rfl, hv, b⟩ := h
  exact ⟨none, 0, 0, none, 0, 0, v, rfl, RepV.none w', .inr ⟨_, er, hv, rfl⟩, b⟩
 | ok t =>
  rw [ht] at h
  obtain ⟨v, rfl, hv, b⟩ := h
  obtain ⟨a, n, a', m, rfl, hr⟩ := RepV.of hv
  exact ⟨a, n, n, a', m, m, .nilIface, rfl, hr, .inl ⟨rfl, rfl⟩, b⟩
theorem Turns.after {w w' : World} (h : Turns w) (hL : Laid2 w) (b : Below w.heap.size w w') : Turns w' := h.below b hL.laid.size
end Go.Proofs.YtiopfihjmkfdmaaGreatDoor
namespace Go.Proofs.YtiopfihjmkfdmaaGreatDoor
open Go.RowKit
structure SndOf (F : FdI) (t : List (Int × List Int) × Int) : Prop where
 v : ∀ v ∈ t.1, 0 ≤ v.1 ∧ ∃ e : Fin 8 → Sp.Iv, F.1[v.1.toNat]? = some (some e) ∧ ∀ k : Fin 8, ((e k).a ≤ v.2.getD k.val 0 ∧ v.2.getD k.val 0 ≤ (e k).b) ∧ Sp.I16 (v.2.getD k.val 0)
 s : t.2 < 0 ∨ F.2[t.2.toNat]? = some 2
theorem ans_sound (th : Bool) (P : Sp.Pol) (src : Sp.Bs) (ins : List Int) (hi : ∀ n ∈ ins, Sp.I16 n) : match Sp.run src ins 300 with
  | .error er => (ansF th P src).2 = er.1
  | .ok t => (ansF th P src).2 = 0 ∧ SndOf (ansF th P src).1 t := by
 cases ht : Sp.tree src with
 | error er =>
  rw [show Sp.run src ins 300 = .error er by unfold Sp.run; rw [Sp.parse_tree, ht]]
  show (ansF th P src).2 = er.1
  unfold ansF
  rw [ht]
 | ok t =>
  obtain ⟨h1, h2, h3⟩ := Sp.tree_small ht
  have h := Sp.report_sound (Sp.ivRk (stepsAt th t)) (Sp.ivSnd (stepsAt th t)) P t h3 h1 h2 ins hi 300
  rw [show Sp.run src ins 300 = .ok (Sp.runOf (Sp.foldB Sp.Rn t) ins 300) by unfold Sp.run; rw [Sp.parse_tree, ht]; rfl]
  have e : ansF th P src = (Sp.reportOf (Sp.ivDom (stepsAt th t)) P t, 0) := by unfold ansF; rw [ht]; rfl
  show (ansF th P src).2 = 0 ∧ SndOf (ansF th P src).1 _
  rw [e]
  refine ⟨rfl, fun v hv => ?_, ?_⟩
  ·obtain ⟨a, b, e, c, d⟩ := h.1 v hv
   exact ⟨a, e, c, fun k => d.2 k⟩
  ·rcases h.2 with h | h
   ·exact .inl h
   ·exact .inr h.2
end Go.Proofs.YtiopfihjmkfdmaaGreatDoor
namespace Go.Proofs.YtiopfihjmkfdmaaGreatDoor
open Go.RowKit
set_option maxRecDepth 100000
set_option maxHeartbeats 4000000
theorem ErrAt2.later {w w' : World} {B : Nat} {v : Value} {er : Nat × Nat} (h : ErrAt2 w B v er) (hb : Below w.heap.size w w') : ErrAt2 w' 0 v er := by
 rcases h with (h | ⟨N, _, h2, h3⟩) | h
 ·exact .inl (.inl h)
 ·exact .inl (.inr ⟨N, Nat.zero_le _, h2, by rw [hb.block _ (heap_lt h3)]; exact h3⟩)
 ·exact .inr h
theorem visCells_append (a b : List (Int × List Int)) : visCells (a ++ b) = visCells a ++ visCells b := by
 unfold visCells; simp
theorem VisAt.take {w : World} {a : Option Addr} {n c : Nat} {vis : List (Int × List Int)} (h : VisAt w (.slice a n c) vis) (F : Nat) (hF : F ≤ vis.length) : VisAt w (.slice a F c) (vis.take F) := by
 obtain ⟨a', c', e, h2, h3⟩ := h
 cases e
 refine ⟨a, c, by simp [Nat.min_eq_left hF], by simp; omega, fun hne => ?_⟩
 have hv : vis ≠ [] := by intro e; subst e; simp at hne
 obtain ⟨g, h4, h5⟩ := h3 hv
 refine ⟨g, h4, fun i u hu => h5 i u ?_⟩
 rw [← List.take_append_drop F vis, visCells_append, List.getElem?_append_left (List.getElem?_eq_some_iff.1 hu).1]
 exact hu
theorem VisAt.set {w : World} {v : Value} {vis : List (Int × List Int)} (h : VisAt w v vis) {S j : Nat} {a : Option Addr} {n c : Nat} {x u : Value} {t : TypeId} (hS : w.heap[S]? = some (.cells #[.slice a n c, x] t)) : VisAt (w.setCell ⟨S, j, none⟩ u) v vis := by
 obtain ⟨a', c', e, h2, h3⟩ := h
 refine ⟨a', c', e, h2, fun hne => ?_⟩
 obtain ⟨g, h4, h5⟩ := h3 hne
 have hg : g ≠ S := by
  intro e
  subst e
  cases vis with
  | nil => exact hne rfl
  | cons y ys =>
   have h6 := h5 0 (.int .i64 y.1) rfl
   rw [cell_of hS 0 (v := .slice a n c) rfl] at h6
   cases h6
 exact ⟨g, h4, fun i u' hu => by rw [World.cell?_of_block (w := w) (Below.heap_setCell _ _ _ _ hg)]; exact h5 i u' hu⟩
end Go.Proofs.YtiopfihjmkfdmaaGreatDoor
namespace Go.Proofs.YtiopfihjmkfdmaaGreatDoor
open Go.RowKit
set_option maxRecDepth 100000
set_option maxHeartbeats 4000000
def ins16 (l : List Int) : List Int := l.map Sp.w16
theorem c16_eq (l : List Int) : c16 l = (ins16 l).map fun n => .int .i16 n := by
 unfold c16 ins16; rw [List.map_map]; rfl
end Go.Proofs.YtiopfihjmkfdmaaGreatDoor
namespace Go.Proofs.YtiopfihjmkfdmaaGreatDoor
open Go.RowKit
set_option maxRecDepth 100000
set_option maxHeartbeats 8000000
theorem has_calls (a b n : Int) (w : World) (h1 : a ≤ n) (h2 : n ≤ b) : Calls Tryz.prog 48 #[.int .i64 0, .agg #[.int .i64 a, .int .i64 b], .int .i64 n] w fun e w' => e = .returned (.bool true) ∧ Below w.heap.size w w' := by
 have hb := below_alloc1 w (.cells #[.int .i64 a, .int .i64 b] 73)
 go_enter Tryz.func48, Tryz.ntmps48
 go_wp2_with fail
 go_ret
 exact ⟨by simp, hb⟩
structure SnAt (w : World) (cf : Array Value) (k9 k11 : Nat) (va : Option Addr) (vn vc : Nat) (stop : Int) (vis : List (Int × List Int)) (a : Option Addr) (q c : Nat) (a' : Option Addr) (m c' : Nat) (F : FdI) (W : World) : Prop where
 l : Laid2 W
 g : W.heap[w.heap.size]? = some (.cells cf 58)
 t : W.heap[k9]? = some (.cells #[.slice va vn vc, .int .i64 stop] 41)
 r : W.heap[k11]? = some (.cells #[.slice a q c, .slice a' m c'] 64)
 v : VisAt W (.slice va vn vc) vis
 f : RepV W a q a' m F
 b : Below w.heap.size w W
theorem SnAt.call {w : World} {cf : Array Value} {k9 k11 : Nat} {va : Option Addr} {vn vc : Nat} {stop : Int} {vis : List (Int × List Int)} {a : Option Addr} {q c : Nat} {a' : Option Addr} {m c' : Nat} {F : FdI} {W W' : World} (h : SnAt w cf k9 k11 va vn vc stop vis a q c a' m c' F W) (k : Below W.heap.size W W') : SnAt w cf k9 k11 va vn vc stop vis a q c a' m c' F W' :=
 ⟨h.l.after k, (k.block _ (heap_lt h.g)).trans h.g, (k.block _ (heap_lt h.t)).trans h.t, (k.block _ (heap_lt h.r)).trans h.r, h.v.below k, h.f.below k, h.b.trans (k.mono h.b.size)⟩
theorem run_ne {src : Sp.Bs} {ins : List Int} {fuel : Int} {er : Nat × Nat} (h : Sp.run src ins fuel = .error er) : er.1 ≠ 0 := by
 unfold Sp.run at h
 split at h
 ·next e he => cases h; exact Sp.parse_e _ _ _ he
 ·split at h
  ·cases h; decide
  ·cases h
theorem ins16_in (l : List Int) : ∀ n ∈ ins16 l, Sp.I16 n := by
 intro n hn
 unfold ins16 at hn
 obtain ⟨x, _, rfl⟩ := List.mem_map.1 hn
 exact Sp.w16_in x
def ErrW (w : World) (v : Value) (k : Nat) : Prop := (v = .nilIface ∧ k = 0) ∨ ∃ B er, ErrAt2 w B v er ∧ er.1 = k
theorem ErrW.later {w w' : World} {v : Value} {k : Nat} (h : ErrW w v k) (b : Below w.heap.size w w') : ErrW w' v k := by
 rcases h with h | ⟨B, er, h, e⟩
 ·exact .inl h
 ·exact .inr ⟨0, er, h.later b, e⟩
theorem tell_any2 {w : World} {v : Value} {k : Nat} (h : ErrW w v k) (hL : Laid2 w) : ∃ a : Nat, Calls Tryz.prog 16 #[v] w fun e w' => e = .returned (.tuple #[.int .i64 (k : Nat), .int .i64 (a : Nat)]) ∧ Below w.heap.size w w' := by
 rcases h with ⟨rfl, rfl⟩ | ⟨B, er, h, rfl⟩
 ·exact ⟨0, Tell_nil w⟩
 ·exact ⟨er.2, Tell_err2 v er B w hL.et hL.laid.size h⟩
theorem ErrV.later {w w' : World} {v : Value} {k : Nat} (h : ErrV w v k) (b : Below w.heap.size w w') : ErrV w' v k := by
 rcases h with h | ⟨B, er, h | ⟨N, h1, h2, h3⟩, e⟩
 ·exact .inl h
 ·exact .inr ⟨B, er, .inl h, e⟩
 ·exact .inr ⟨B, er, .inr ⟨N, h1, h2, (b.block _ (heap_lt h3)).trans h3⟩, e⟩
theorem Run_out (s : ByteArray) (iv : Value) (ins : List Int) (w : World) (hs : s.size ≤ 1048576) (hL : Laid w) (hin : InAt w.heap.size w iv ins) (hiv : ∃ a n c, iv = .slice a n c) (F : FdI) (k : Nat) (hk : match Sp.run s.data.toList ins 300 with | .error er => k = er.1 | .ok t => k = 0 ∧ SndOf F t) :
  Calls Tryz.prog 23 #[.string s, iv, .int .i64 300] w fun e w' => ∃ va vn vc stop ev vis, e = .returned (.tuple #[.agg #[.slice va vn vc, .int .i64 stop], ev]) ∧ VisAt w' (.slice va vn vc) vis ∧ vis.length ≤ 500 ∧ ErrW w' ev k ∧ (k = 0 → SndOf F (vis, stop)) ∧ Below w.heap.size w w' := by
 refine (Run_calls s iv ins 300 w hs hL hin hiv).mono ?_
 intro e w' h
 cases hr : Sp.run s.data.toList ins 300 with
 | error er =>
  rw [hr] at h hk
  obtain ⟨v, rfl, hv, b⟩ := h
  exact ⟨none, 0, 0, 0, v, [], rfl, ⟨none, 0, rfl, Nat.le_refl _, fun h => absurd rfl h⟩, Nat.zero_le _, .inr ⟨_, er, hv, Eq.symm hk⟩, fun h0 => absurd (hk.symm.trans h0) (run_ne hr), b⟩
 | ok t =>
  rw [hr] at h hk
  obtain ⟨v, rfl, ⟨vv, rfl, ho, hlen⟩, b⟩ := h
  have hva := visAt_of ho
  obtain ⟨a, n, c, rfl⟩ : ∃ a n c, vv = .slice a n c := by obtain ⟨a, c, h, _⟩ := hva; exact ⟨_, _, _, h⟩
  exact ⟨a, n, c, t.2, .nilIface, t.1, rfl, hva, hlen, .inl ⟨rfl, hk.1⟩, fun _ => hk.2, b⟩
theorem fc_at (e : Fin 8 → Sp.Iv) (i : Nat) (hi : i < 8) : (WI.fcC (some e)).toList[1 + i * 2]? = some (.int .i64 (e ⟨i, hi⟩).a) ∧ (WI.fcC (some e)).toList[1 + i * 2 + 1]? = some (.int .i64 (e ⟨i, hi⟩).b) := by
 have h : i = 0 ∨ i = 1 ∨ i = 2 ∨ i = 3 ∨ i = 4 ∨ i = 5 ∨ i = 6 ∨ i = 7 := by omega
 rcases h with rfl | rfl | rfl | rfl | rfl | rfl | rfl | rfl <;> exact ⟨rfl, rfl⟩
theorem vis_at (x : Int × List Int) (i : Nat) (hi : i < 8) : (visCell x)[1 + i]? = some (.int .i16 (x.2.getD i 0)) := by
 have h : i = 0 ∨ i = 1 ∨ i = 2 ∨ i = 3 ∨ i = 4 ∨ i = 5 ∨ i = 6 ∨ i = 7 := by omega
 rcases h with rfl | rfl | rfl | rfl | rfl | rfl | rfl | rfl <;> rfl
end Go.Proofs.YtiopfihjmkfdmaaGreatDoor
