import Derived.Test.YtiopfihjmkfdmaaGreatDoorS47
import Derived.Test.YtiopfihjmkfdmaaGreatDoorS45
import Derived.Test.YtiopfihjmkfdmaaGreatDoorS41
import Derived.Test.YtiopfihjmkfdmaaGreatDoorS17
namespace Go.Proofs.YtiopfihjmkfdmaaGreatDoor
open Go.RowKit
set_option maxRecDepth 100000
set_option maxHeartbeats 4000000
theorem raw_mod (n : Int) (M : Nat) (hM : 0 < M) (hM2 : M ≤ 1000) : ∃ F : Nat, F < M ∧ RowKit.wrap64 ((IntKind.u64.wrap n).tmod M) = (F : Int) := by
 have h0 : 0 ≤ IntKind.u64.wrap n := by
  simp only [IntKind.wrap_u64]
  omega
 have h1 : (IntKind.u64.wrap n).tmod M = (IntKind.u64.wrap n) % M := Int.tmod_eq_emod_of_nonneg h0
 have h2 := Int.emod_nonneg (IntKind.u64.wrap n) (show (M : Int) ≠ 0 by omega)
 have h3 := Int.emod_lt_of_pos (IntKind.u64.wrap n) (show (0 : Int) < M by omega)
 refine ⟨((IntKind.u64.wrap n) % M).toNat, by omega, ?_⟩
 rw [h1]
 unfold RowKit.wrap64
 omega
theorem config_calls (delay narrow unroll : Int) (th : Bool) :
  ∃ d n u : Nat, d ≤ 4 ∧ n ≤ 3 ∧ u ≤ 3 ∧ ∀ w : World, Calls Tryz.prog 30 #[.int .i64 0, .int .i64 delay, .int .i64 narrow, .int .i64 unroll, .bool th] w fun e w' => e = .returned (.agg #[.int .i64 0, .int .i64 (d : Nat), .int .i64 (n : Nat), .int .i64 (u : Nat), .bool th]) ∧ Below w.heap.size w w' := by
 obtain ⟨d, hd, h1⟩ := raw_mod delay 5 (by omega) (by omega)
 obtain ⟨n, hn, h2⟩ := raw_mod narrow 4 (by omega) (by omega)
 obtain ⟨u, hu, h3⟩ := raw_mod unroll 4 (by omega) (by omega)
 have h1 : RowKit.wrap64 ((IntKind.u64.wrap delay).tmod 5) = (d : Int) := h1
 have h2 : RowKit.wrap64 ((IntKind.u64.wrap narrow).tmod 4) = (n : Int) := h2
 have h3 : RowKit.wrap64 ((IntKind.u64.wrap unroll).tmod 4) = (u : Int) := h3
 refine ⟨d, n, u, by omega, by omega, by omega, fun w => ?_⟩
 go_enter Tryz.func30, Tryz.ntmps30
 go_wp2_with fail
 have hB : Below w.heap.size w ((w.alloc (.cells #[.int .i64 0, .int .i64 (d : Nat), .int .i64 (n : Nat), .int .i64 (u : Nat), .bool th] 58)).alloc (.cells #[.int .i64 0, .int .i64 (d : Nat), .int .i64 (n : Nat), .int .i64 (u : Nat), .bool th] 58)) := by go_grown
 go_returns
 exact ⟨rfl, hB⟩
def WordPost (s W : ByteArray) (w : World) (e : Ending) (w' : World) : Prop := (∃ r, e = .returned (.bool r) ∧ (r = false → ¬ Sp.HasW W.data.toList s.data.toList)) ∧ w' = w
theorem extract_list (s : ByteArray) (j n : Nat) : (s.extract j (j + n)).toList = (s.data.toList.drop j).take n := by
 rw [ByteArray.toList_eq]
 have e : (s.extract j (j + n)).data = s.data.extract j (j + n) := by simp
 rw [e, Array.toList_extract]
 simp [List.extract, List.take_drop]
theorem word_calls (s W : ByteArray) (hs : s.size ≤ 1048576) (hW : 0 < W.size) (hW2 : W.size ≤ 1000) (w : World) :
  Calls Tryz.prog 33 #[.string s, .string W] w (WordPost s W w) := by
 have hs2 : (s.size : Int) ≤ 1048576 := by omega
 have hW3 : (W.size : Int) ≤ 1000 := by omega
 go_enter Tryz.func33, Tryz.ntmps33
 go_wp2_with fail
 go_loopw [5] (fun v5 wr => ∃ j : Nat, j ≤ s.size + 1 ∧ v5 = .int .i64 j ∧ wr = w ∧ Hid (∀ k, k < j → ¬ ∃ b, s.data.toList = s.data.toList.take k ++ W.data.toList ++ b)) (fun v5 _ => s.size + 1 - (intOf v5).toNat)
 case atStart => exact ⟨0, Nat.zero_le _, rfl, rfl, fun k hk => by omega⟩
 case round =>
  obtain ⟨j, hj, rfl, rfl, hq⟩ := hrel
  by_cases hjl : j + W.size ≤ s.size
  ·have hji : ((j : Nat) : Int) + ((W.size : Nat) : Int) ≤ ((s.size : Nat) : Int) := by omega
   cases hx : ((s.extract j (j + W.size)).toList == W.toList) with
   | true =>
    go_wp2_with fail
    go_ret
    exact ⟨⟨true, rfl, fun h => by cases h⟩, rfl⟩
   | false =>
    have HQ : Hid (∀ k, k < j + 1 → ¬ ∃ b, s.data.toList = s.data.toList.take k ++ W.data.toList ++ b) := by
     intro k hk
     by_cases hkj : k < j
     ·exact hq.out k hkj
     ·obtain rfl : k = j := by omega
      rintro ⟨b, hb⟩
      have hl : (s.data.toList.take k).length = k := by
       rw [List.length_take]
       have : s.data.toList.length = s.size := rfl
       omega
      have e : (s.extract k (k + W.size)).toList = W.toList := by
       rw [extract_list, hb, List.append_assoc, List.drop_append_of_le_length (by rw [hl]; exact Nat.le_refl _), List.drop_of_length_le (by rw [hl]; exact Nat.le_refl _), List.nil_append, List.take_append_of_le_length (by show W.size ≤ W.data.toList.length; exact Nat.le_refl _), List.take_of_length_le (by show W.data.toList.length ≤ W.size; exact Nat.le_refl _), ByteArray.toList_eq]
      rw [e] at hx
      simp at hx
    go_wp2_with fail
    exact ⟨⟨j + 1, by omega, by go_num, trivial, HQ⟩, by simp [intOf]; omega⟩
  ·have hji : ¬ ((j : Nat) : Int) + ((W.size : Nat) : Int) ≤ ((s.size : Nat) : Int) := by omega
   have HN : Hid (¬ Sp.HasW W.data.toList s.data.toList) := by
    rintro ⟨a, b, hab⟩
    have h1 := congrArg List.length hab
    simp only [List.length_append] at h1
    have h2 : s.data.toList.length = s.size := rfl
    have h3 : W.data.toList.length = W.size := rfl
    refine hq.out a.length (by omega) ⟨b, ?_⟩
    have : s.data.toList.take a.length = a := by rw [hab, List.append_assoc, List.take_append_of_le_length (Nat.le_refl _), List.take_of_length_le (Nat.le_refl _)]
    rw [this]
    exact hab
   go_wp2_with fail
   go_ret
   exact ⟨⟨false, rfl, fun _ => HN.out⟩, rfl⟩
end Go.Proofs.YtiopfihjmkfdmaaGreatDoor
namespace Go.Proofs.YtiopfihjmkfdmaaGreatDoor
open Go.RowKit
set_option maxRecDepth 100000
set_option maxHeartbeats 4000000
def knowSrc : Sp.Bs := [97, 32, 61, 32, 54, 59, 32, 98, 32, 61, 32, 97, 32, 47, 32, 50, 59, 32, 114, 101, 97, 100, 32, 99, 59, 32, 97, 115, 115, 101, 114, 116, 32, 99, 32, 33, 61, 32, 49, 59]
def knowT : Sp.Bl := .assign 0 (.num 6) (.assign 1 (.bin 3 (.name 0) (.num 2)) (.read 2 (.assert 3 (.name 2) (.num 1) .nil)))
theorem know_tree : Sp.tree knowSrc = .ok knowT := by kernel_rfl
def knowF : FdI := Sp.reportOf (Sp.ivDom (stepsAt false knowT)) ⟨0, 0, 0⟩ knowT
theorem know_len : knowF.1.length = 5 := by kernel_rfl
theorem know_sites : knowF.2 = [1, 2] := by kernel_rfl
theorem know_fact : (knowF.1[4]?).map (fun s => s.map fun e => e 1) = some (some ⟨3, 3⟩) := by kernel_rfl
theorem know_cells {w : World} {g : Nat} (h : w.heap[g]? = some (.cells (WI.fcCells knowF.1).toArray 76)) :
  w.cell? ⟨g, 68, none⟩ = some (.bool true) ∧ w.cell? ⟨g, 71, none⟩ = some (.int .i64 3) ∧ w.cell? ⟨g, 72, none⟩ = some (.int .i64 3) := by
 obtain ⟨s, hs, h1⟩ := Option.map_eq_some_iff.1 know_fact
 obtain ⟨e, rfl, h2⟩ := Option.map_eq_some_iff.1 h1
 have hget : ∀ j v, j < 17 → (WI.fcC (some e))[j]? = some v → w.cell? ⟨g, 4 * 17 + j, none⟩ = some v := fun j v hj hv => by
  refine cell_of h _ ?_
  rw [List.getElem?_toArray]
  show (knowF.1.flatMap fun s => (WI.fcC s).toList)[4 * 17 + j]? = some v
  rw [chunk_get WI.fcC_len knowF.1 4 (some e) j hs hj, Array.getElem?_toList]
  exact hv
 have hl : (List.ofFn fun k => WI.vTell (e k))[1]? = some (3, 3) := by
  rw [List.getElem?_ofFn, dif_pos (by omega)]
  show some (WI.vTell (e 1)) = _
  rw [h2]
  rfl
 obtain ⟨a1, a2⟩ := stA_get (fun v : Int × Int => .int .i64 v.1) (fun v : Int × Int => .int .i64 v.2) (r := true) hl
 exact ⟨hget 0 _ (by omega) rfl, hget 3 _ (by omega) a1, hget 4 _ (by omega) a2⟩
theorem knows_calls (w : World) (hL : Laid2 w) (hT : Turns w) : Calls Tryz.prog 29 #[.int .i64 0] w fun e w' => e = .returned (.bool true) ∧ Below w.heap.size w w' := by
 have hc := Analyze_calls ⟨#[97, 32, 61, 32, 54, 59, 32, 98, 32, 61, 32, 97, 32, 47, 32, 50, 59, 32, 114, 101, 97, 100, 32, 99, 59, 32, 97, 115, 115, 101, 114, 116, 32, 99, 32, 33, 61, 32, 49, 59]⟩ 0 0 0 false w (by decide) hL.laid hT (by omega) (by omega) (by omega)
 rw [show (⟨#[97, 32, 61, 32, 54, 59, 32, 98, 32, 61, 32, 97, 32, 47, 32, 50, 59, 32, 114, 101, 97, 100, 32, 99, 59, 32, 97, 115, 115, 101, 114, 116, 32, 99, 32, 33, 61, 32, 49, 59]⟩ : ByteArray).data.toList = knowSrc from rfl, know_tree] at hc
 go_enter Tryz.func29, Tryz.ntmps29
 go_wp2_with fail
 refine hc.mono ?_
 rintro e w1 ⟨v, rfl, hv, b1⟩
 have hv' : RepAt w.heap.size w1 v knowF := hv
 obtain ⟨g, h, rfl, _, _, h1, h2⟩ := hv'
 rw [know_len, know_sites]
 rw [know_sites] at h2
 obtain ⟨k0, k1, k2⟩ := know_cells h1
 have s0 := cell_of h2 0 (v := .int .i64 1) rfl
 have s1 := cell_of h2 1 (v := .int .i64 2) rfl
 have lg := heap_lt h1
 have lh := heap_lt h2
 simp only [List.length_cons, List.length_nil]
 clear hc hv h1 h2
 go_wp2_with fail
 have hn := heap_alloc_new w1 (.cells #[.slice (some ⟨g, 0, none⟩) 5 5, .slice (some ⟨h, 0, none⟩) 2 2] 64)
 have b3 := below_alloc1 w1 (.cells #[.slice (some ⟨g, 0, none⟩) 5 5, .slice (some ⟨h, 0, none⟩) 2 2] 64)
 refine (Tell_nil _).mono ?_
 rintro e w2 ⟨rfl, b4⟩
 have hn2 : w2.heap[w1.heap.size]? = some (.cells #[.slice (some ⟨g, 0, none⟩) 5 5, .slice (some ⟨h, 0, none⟩) 2 2] 64) := by rw [b4.block _ (by simp)]; exact hn
 have m0 := cell_of hn2 0 (v := .slice (some ⟨g, 0, none⟩) 5 5) rfl
 have m1 := cell_of hn2 1 (v := .slice (some ⟨h, 0, none⟩) 2 2) rfl
 have b5 : Below w1.heap.size w1 w2 := b3.trans (b4.mono (by simp))
 have j0 : w2.cell? ⟨g, 68, none⟩ = some (.bool true) := by rw [b5.cell (p := ⟨g, 68, none⟩) lg]; exact k0
 have j1 : w2.cell? ⟨g, 71, none⟩ = some (.int .i64 3) := by rw [b5.cell (p := ⟨g, 71, none⟩) lg]; exact k1
 have j2 : w2.cell? ⟨g, 72, none⟩ = some (.int .i64 3) := by rw [b5.cell (p := ⟨g, 72, none⟩) lg]; exact k2
 have i0 : w2.cell? ⟨h, 0, none⟩ = some (.int .i64 1) := by rw [b5.cell (p := ⟨h, 0, none⟩) lh]; exact s0
 have i1 : w2.cell? ⟨h, 1, none⟩ = some (.int .i64 2) := by rw [b5.cell (p := ⟨h, 1, none⟩) lh]; exact s1
 have lw : w1.heap.size < w2.heap.size := heap_lt hn2
 have n1 : g ≠ w2.heap.size := by omega
 have n2 : h ≠ w2.heap.size := by omega
 have n3 : w1.heap.size ≠ w2.heap.size := by omega
 have bv := below_alloc1 w2 (.cells #[.int .i64 3, .int .i64 3] 73)
 have lg2 : g < w2.heap.size := by omega
 have lh2 : h < w2.heap.size := by omega
 have p0 := (bv.cell (p := ⟨g, 68, none⟩) lg2).trans j0
 have p1 := (bv.cell (p := ⟨h, 0, none⟩) lh2).trans i0
 have p2 := (bv.cell (p := ⟨h, 1, none⟩) lh2).trans i1
 have p3 := (bv.cell (p := ⟨w1.heap.size, 0, none⟩) lw).trans m0
 have p4 := (bv.cell (p := ⟨w1.heap.size, 1, none⟩) lw).trans m1
 have hB := b1.trans (b5.mono b1.size)
 have HB : Hid (Below w.heap.size w w2) := hB
 clear hn hn2 b3 b4 k0 k1 k2 s0 s1 hB b1 b5 bv
 go_wp2_with (go_at_call 18; refine (num_calls _ _).mono ?_; rintro e w4 ⟨rfl, rfl⟩)
 go_ret
 exact ⟨rfl, HB.out.alloc HB.out.size _⟩
end Go.Proofs.YtiopfihjmkfdmaaGreatDoor
namespace Go.Proofs.YtiopfihjmkfdmaaGreatDoor
namespace Sp
namespace Bk
section
variable {J : Alg} (h : Hom J Pr)
def tx (x : J.S) : Nat × Bs := h.s x
def tt (x : J.T) : Nat → Bs := h.t x
def RU (x : J.S) (t : Bs) (o : Nat) : Prop := ∀ o' n r, o' ≤ o → t.length ≤ n → Brk r → pUnary J n o' (t ++ r) = .ok (x, skip r)
def RP (x : J.S) (t : Bs) (o : Nat) : Prop := ∀ o' n r, o' ≤ o → t.length ≤ n → Brk r → ∃ m, (skip r).length < m ∧ pProd J (pUnary J n o') (t ++ r) = pChain J 1 (pUnary J n o') m x (skip r)
def RS (x : J.S) (t : Bs) (o : Nat) : Prop := ∀ o' n r, o' ≤ o → t.length ≤ n → Brk r → No1 r → ∃ m, (skip r).length < m ∧ pSum J (pUnary J n o') (t ++ r) = pChain J 0 (pProd J (pUnary J n o')) m x (skip r)
theorem stop1 {u : Bs → R J.S} {m : Nat} {x : J.S} {r : Bs} (h : No1 r) : pChain J 1 u m x (skip r) = .ok (x, skip r) := by
 cases m with
 | zero => rfl
 | succ m =>
  rw [pChain_succ J 1 u m x (skip r)]
  split
  ·next k hk => rw [if_neg (h k hk)]
  ·rfl
theorem stop0 {u : Bs → R J.S} {m : Nat} {x : J.S} {r : Bs} (h : opOf (tok r) = none) : pChain J 0 u m x r = .ok (x, r) := by
 cases m with
 | zero => rfl
 | succ m =>
  rw [pChain_succ J 0 u m x r, h]
theorem RU.rp {x : J.S} {t : Bs} {o : Nat} (h : RU x t o) : RP x t o := by
 intro o' n r ho hn hr
 refine ⟨(skip r).length + 1, by omega, ?_⟩
 unfold pProd pWith
 rw [h o' n r ho hn hr]
theorem RP.rs {x : J.S} {t : Bs} {o : Nat} (h : RP x t o) : RS x t o := by
 intro o' n r ho hn hr h1
 obtain ⟨m, _, he⟩ := h o' n r ho hn hr
 rw [stop1 h1] at he
 refine ⟨(skip r).length + 1, by omega, ?_⟩
 unfold pSum pWith
 rw [he]
theorem RU.mono {x : J.S} {t : Bs} {o o1 : Nat} (h : RU x t o1) (ho : o ≤ o1) : RU x t o := fun o' n r k => h o' n r (by omega)
theorem RP.mono {x : J.S} {t : Bs} {o o1 : Nat} (h : RP x t o1) (ho : o ≤ o1) : RP x t o := fun o' n r k => h o' n r (by omega)
theorem RS.mono {x : J.S} {t : Bs} {o o1 : Nat} (h : RS x t o1) (ho : o ≤ o1) : RS x t o := fun o' n r k => h o' n r (by omega)
theorem RP.bin {x y : J.S} {tx ty : Bs} {o k : Nat} (hk : k < 5) (hl : opLevel k = 1) (hx : RP x tx o) (hy : RU y ty o) (ny : NB ty) :
  RP (J.bin k x y) (tx ++ [32] ++ opSign k ++ [32] ++ ty) o := by
 intro o' n r ho hn hr
 obtain ⟨s1, s2, s3, s4, s5⟩ := sign_tok hk (ty ++ r)
 rw [show (tx ++ [32] ++ opSign k ++ [32] ++ ty) ++ r = tx ++ (32 :: (opSign k ++ 32 :: (ty ++ r))) by simp]
 simp only [List.length_append, List.length_cons, List.length_nil] at hn
 obtain ⟨m, hm, he⟩ := hx o' n _ ho (by omega) (brk_32 _)
 rw [he]
 rw [s3] at hm ⊢
 obtain ⟨m', rfl⟩ : ∃ m', m = m' + 1 := ⟨m - 1, by omega⟩
 refine ⟨m', ?_, ?_⟩
 ·simp only [List.length_append, List.length_cons] at hm
  have := skip_len r
  omega
 ·rw [pChain_succ J 1 _ m' x _, s1, s4]
  simp only [hl, if_true]
  rw [s2, ny.skip, hy o' n r ho (by omega) hr]
theorem RS.bin {x y : J.S} {tx ty : Bs} {o k : Nat} (hk : k < 5) (hl : opLevel k = 0) (hx : RS x tx o) (hy : RP y ty o) (ny : NB ty) :
  RS (J.bin k x y) (tx ++ [32] ++ opSign k ++ [32] ++ ty) o := by
 intro o' n r ho hn hr h1
 obtain ⟨s1, s2, s3, s4, s5⟩ := sign_tok hk (ty ++ r)
 rw [show (tx ++ [32] ++ opSign k ++ [32] ++ ty) ++ r = tx ++ (32 :: (opSign k ++ 32 :: (ty ++ r))) by simp]
 simp only [List.length_append, List.length_cons, List.length_nil] at hn
 obtain ⟨m, hm, he⟩ := hx o' n (32 :: (opSign k ++ 32 :: (ty ++ r))) ho (by omega) (brk_32 _) (by
  intro k' hk'
  rw [s3, s1, s4] at hk'
  cases hk'
  omega)
 rw [he]
 rw [s3] at hm ⊢
 obtain ⟨m', rfl⟩ : ∃ m', m = m' + 1 := ⟨m - 1, by omega⟩
 refine ⟨m', ?_, ?_⟩
 ·simp only [List.length_append, List.length_cons] at hm
  have := skip_len r
  omega
 ·obtain ⟨m2, _, he2⟩ := hy o' n r ho (by omega) hr
  rw [stop1 h1] at he2
  rw [pChain_succ J 0 _ m' x _, s1, s4]
  simp only [hl, if_true]
  rw [s2, ny.skip, he2]
theorem RU.bracket {x : J.S} {t : Bs} {o : Nat} (h : RS x t (o + 1)) (nt : NB t) (ho : o < 12) : RU x ([40] ++ t ++ [41]) o := by
 intro o' n r ho' hn hr
 simp only [List.length_append, List.length_cons, List.length_nil] at hn
 obtain ⟨n', rfl⟩ : ∃ n', n = n' + 1 := ⟨n - 1, by omega⟩
 rw [show ([40] ++ t ++ [41]) ++ r = 40 :: (t ++ 41 :: r) by simp]
 obtain ⟨q1, q2, q3⟩ := tok_one (c := 40) (r := t ++ 41 :: r) (by decide) (fun h => absurd h (by decide))
 obtain ⟨p1, p2, _⟩ := tok_one (c := 41) (r := r) (by decide) (fun h => absurd h (by decide))
 have hsk : skip (41 :: r) = 41 :: r := skip_nb _ (by decide)
 have hop : opOf (tok (41 :: r)) = none := by rw [p1]; rfl
 obtain ⟨m, _, he⟩ := h (o' + 1) n' (41 :: r) (by omega) (by omega) (brk_41 r) (by
  intro k hk
  rw [hsk, hop] at hk
  cases hk)
 rw [hsk, stop0 hop] at he
 unfold pUnary
 rw [if_neg (by rw [q3]; decide), if_neg (by rw [q3]; decide), if_neg (by rw [q1]; decide)]
 unfold enter
 rw [if_pos q1, if_neg (by omega), q2, nt.skip]
 simp only
 rw [he]
 simp only
 unfold take
 rw [if_pos p1, p2]
theorem RU.neg {x : J.S} {t : Bs} {o : Nat} (y : J.S) (hy : y = J.neg x) (h : RU x t (o + 1)) (nt : NB t) (ho : o < 12) : RU y ([45] ++ t) o := by
 intro o' n r ho' hn hr
 simp only [List.length_append, List.length_cons, List.length_nil] at hn
 obtain ⟨n', rfl⟩ : ∃ n', n = n' + 1 := ⟨n - 1, by omega⟩
 rw [show ([45] ++ t) ++ r = 45 :: (t ++ r) by simp]
 obtain ⟨q1, q2, q3⟩ := tok_one (c := 45) (r := t ++ r) (by decide) (fun h => absurd h (by decide))
 have he := h (o' + 1) n' r (by omega) (by omega) hr
 unfold pUnary
 rw [if_neg (by rw [q3]; decide), if_neg (by rw [q3]; decide), if_pos q1]
 unfold enter
 rw [if_pos q1, if_neg (by omega), q2, nt.skip]
 simp only
 rw [he, hy]
structure G (o : Nat) (x : J.S) : Prop where
 nb : NB (tx h x).2
 le : (tx h x).1 ≤ 2
 u : (tx h x).1 = 2 → RU x (tx h x).2 o
 p : 1 ≤ (tx h x).1 → RP x (tx h x).2 o
 s : RS x (tx h x).2 o
structure PV (o : Nat) (x : J.S) : Prop where
 g : G h o x
 p : RP x (part (tx h x) 1) o
structure UV (o : Nat) (x : J.S) : Prop where
 g : G h o x
 p : RP x (part (tx h x) 1) o
 u : RU x (part (tx h x) 2) o
theorem UV.leaf {o : Nat} {x : J.S} (h2 : (tx h x).1 = 2) (hn : NB (tx h x).2) (hu : RU x (tx h x).2 o) : UV h o x :=
 ⟨⟨hn, by omega, fun _ => hu, fun _ => hu.rp, hu.rp.rs⟩, by rw [part_ge (by omega)]; exact hu.rp, by rw [part_ge (by omega)]; exact hu⟩
theorem UV.bracket {o : Nat} {x : J.S} (g : G h (o + 1) x) (ho : o < 12) : UV h o x := by
 have hb : RU x ([40] ++ (tx h x).2 ++ [41]) o := RU.bracket g.s g.nb ho
 refine ⟨⟨g.nb, g.le, fun k => (g.u k).mono (by omega), fun k => (g.p k).mono (by omega), g.s.mono (by omega)⟩, ?_, ?_⟩
 ·by_cases k : (tx h x).1 < 1
  ·rw [part_lt k]; exact hb.rp
  ·rw [part_ge (by omega)]; exact (g.p (by omega)).mono (by omega)
 ·by_cases k : (tx h x).1 < 2
  ·rw [part_lt k]; exact hb
  ·have := g.le
   rw [part_ge (by omega)]; exact (g.u (by omega)).mono (by omega)
theorem UV.neg {o : Nat} {x : J.S} (v : UV h (o + 1) x) (ho : o < 12) : UV h o (J.neg x) := by
 have e : tx h (J.neg x) = (2, [45] ++ part (tx h x) 2) := h.neg x
 refine UV.leaf h (by rw [e]) (by rw [e]; exact ⟨45, part (tx h x) 2, rfl, by decide⟩) ?_
 rw [e]
 exact RU.neg _ rfl v.u (part_nb v.g.nb 2) ho
theorem UV.num {o n : Nat} (hn : n ≤ 32767) : UV h o (J.num n) := by
 have e : tx h (J.num n) = (2, digits n) := h.num n
 refine UV.leaf h (by rw [e]) (by rw [e]; exact digits_nb hn) ?_
 rw [e]
 intro o' m r _ hm hr
 obtain ⟨h1, h2, h3⟩ := digits_spec hn
 obtain ⟨q1, q2, q3⟩ := tok_digits h1 h2 hr.dig
 have hm' : (digits n).length ≤ m := hm
 have : 0 < (digits n).length := List.length_pos_iff.2 h1
 obtain ⟨m', rfl⟩ : ∃ m', m = m' + 1 := ⟨m - 1, by omega⟩
 show pUnary J (m' + 1) o' (digits n ++ r) = _
 unfold pUnary
 rw [if_pos q3, q1, h3, q2]
theorem UV.name {o k : Nat} (hk : k < 8) : UV h o (J.name k) := by
 have e : tx h (J.name k) = (2, letter k) := h.name k
 refine UV.leaf h (by rw [e]) (by rw [e]; exact letter_nb hk) ?_
 rw [e]
 intro o' m r _ hm hr
 obtain ⟨q1, q2, q3⟩ := tok_word (t := letter k) (r := r) (by simp [letter]) (letter_let hk) hr.let
 have hm' : (letter k).length ≤ m := hm
 simp [letter] at hm'
 obtain ⟨m', rfl⟩ : ∃ m', m = m' + 1 := ⟨m - 1, by omega⟩
 show pUnary J (m' + 1) o' (letter k ++ r) = _
 unfold pUnary
 rw [if_neg (by rw [q3]; decide), if_pos q3, pName_letter hk hr.let]
theorem PV.bin {o k : Nat} {x y : J.S} (hk : k < 5) (hl : opLevel k = 1) (hx : PV h o x) (hy : UV h o y) : PV h o (J.bin k x y) := by
 have e : tx h (J.bin k x y) = (1, part (tx h x) 1 ++ [32] ++ opSign k ++ [32] ++ part (tx h y) 2) := by
  have e0 : tx h (J.bin k x y) = (opLevel k, part (tx h x) (opLevel k) ++ [32] ++ opSign k ++ [32] ++ part (tx h y) (opLevel k + 1)) := h.bin k x y
  rw [e0, hl]
 have hp := RP.bin hk hl hx.p hy.u (part_nb hy.g.nb 2)
 have hn : NB (part (tx h x) 1 ++ [32] ++ opSign k ++ [32] ++ part (tx h y) 2) := ((((part_nb hx.g.nb 1).app _).app _).app _).app _
 have e2 : part (1, part (tx h x) 1 ++ [32] ++ opSign k ++ [32] ++ part (tx h y) 2) 1 = part (tx h x) 1 ++ [32] ++ opSign k ++ [32] ++ part (tx h y) 2 := part_ge (Nat.le_refl 1)
 refine ⟨⟨by rw [e]; exact hn, by rw [e]; simp, fun k => by rw [e] at k; simp at k, fun _ => by rw [e]; exact hp, by rw [e]; exact hp.rs⟩, by rw [e, e2]; exact hp⟩
theorem G.bin {o k : Nat} {x y : J.S} (hk : k < 5) (hl : opLevel k = 0) (hx : G h o x) (hy : PV h o y) : G h o (J.bin k x y) := by
 have e : tx h (J.bin k x y) = (0, (tx h x).2 ++ [32] ++ opSign k ++ [32] ++ part (tx h y) 1) := by
  have e0 : tx h (J.bin k x y) = (opLevel k, part (tx h x) (opLevel k) ++ [32] ++ opSign k ++ [32] ++ part (tx h y) (opLevel k + 1)) := h.bin k x y
  rw [e0, hl, part_ge (Nat.zero_le _)]
 have hp := RS.bin hk hl hx.s hy.p (part_nb hy.g.nb 1)
 have hn : NB ((tx h x).2 ++ [32] ++ opSign k ++ [32] ++ part (tx h y) 1) := (((hx.nb.app _).app _).app _).app _
 exact ⟨by rw [e]; exact hn, by rw [e]; simp, fun k => by rw [e] at k; simp at k, fun k => by rw [e] at k; simp at k, by rw [e]; exact hp⟩
theorem pChain1_pv {o : Nat} {u : Bs → R J.S} (hu : ∀ l x l', u l = .ok (x, l') → UV h o x) : ∀ m x l y l', PV h o x → pChain J 1 u m x l = .ok (y, l') → PV h o y := by
 intro m
 induction m with
 | zero => intro x l y l' hx h; cases h; exact hx
 | succ m ih =>
  intro x l y l' hx k
  rw [pChain_succ J 1 u m x l] at k
  split at k
  ·next j hk =>
   split at k
   ·next hl =>
    split at k
    ·next z l1 hz => exact ih _ _ _ _ (PV.bin h (opOf_lt hk) hl hx (hu _ _ _ hz)) k
    ·cases k
   ·cases k; exact hx
  ·cases k; exact hx
theorem pProd_pv {o : Nat} {u : Bs → R J.S} (hu : ∀ l x l', u l = .ok (x, l') → UV h o x) {l : Bs} {y : J.S} {l' : Bs} (k : pProd J u l = .ok (y, l')) : PV h o y := by
 unfold pProd pWith at k
 split at k
 ·next x l1 hx => exact pChain1_pv h hu _ _ _ _ _ ⟨(hu _ _ _ hx).g, (hu _ _ _ hx).p⟩ k
 ·cases k
theorem pChain0_g {o : Nat} {u : Bs → R J.S} (hu : ∀ l x l', u l = .ok (x, l') → PV h o x) : ∀ m x l y l', G h o x → pChain J 0 u m x l = .ok (y, l') → G h o y := by
 intro m
 induction m with
 | zero => intro x l y l' hx h; cases h; exact hx
 | succ m ih =>
  intro x l y l' hx k
  rw [pChain_succ J 0 u m x l] at k
  split at k
  ·next j hk =>
   split at k
   ·next hl =>
    split at k
    ·next z l1 hz => exact ih _ _ _ _ (G.bin h (opOf_lt hk) hl hx (hu _ _ _ hz)) k
    ·cases k
   ·cases k; exact hx
  ·cases k; exact hx
theorem pSum_g {o : Nat} {u : Bs → R J.S} (hu : ∀ l x l', u l = .ok (x, l') → UV h o x) {l : Bs} {y : J.S} {l' : Bs} (k : pSum J u l = .ok (y, l')) : G h o y := by
 unfold pSum pWith at k
 split at k
 ·next x l1 hx => exact pChain0_g h (fun l x l' k => pProd_pv h hu k) _ _ _ _ _ (pProd_pv h hu hx).g k
 ·cases k
theorem pUnary_uv : ∀ n o l x l', o ≤ 12 → pUnary J n o l = .ok (x, l') → UV h o x := by
 intro n
 induction n with
 | zero => intro o l x l' _ k; cases k
 | succ n ih =>
  intro o l x l' ho k
  unfold pUnary at k
  split at k
  ·split at k
   ·next v hv => cases k; exact UV.num h (numVal_le hv)
   ·cases k
  ·split at k
   ·split at k
    ·next j l1 hk => cases k; exact UV.name h (pName_lt8 hk)
    ·cases k
   ·split at k
    ·split at k
     ·next l1 he =>
      split at k
      ·next y l2 hy => cases k; exact UV.neg h (ih _ _ _ _ (enter_ok he ho) hy) (enter_ok he ho)
      ·cases k
     ·cases k
    ·split at k
     ·next l1 he =>
      split at k
      ·next y l2 hy =>
       split at k
       ·cases k; exact UV.bracket h (pSum_g h (fun l x l' k => ih _ _ _ _ (enter_ok he ho) k) hy) (enter_ok he ho)
       ·cases k
      ·cases k
     ·cases k
theorem pS_g {o : Nat} {l : Bs} {x : J.S} {l' : Bs} (ho : o ≤ 12) (k : pS J o l = .ok (x, l')) : G h o x :=
 pSum_g h (fun _ _ _ k => pUnary_uv h _ _ _ _ _ ho k) k
theorem G.read {o : Nat} {x : J.S} (g : G h o x) {o' : Nat} (ho : o' ≤ o) {r : Bs} (hr : Brk r) (hn : opOf (tok (skip r)) = none) : pS J o' ((tx h x).2 ++ r) = .ok (x, skip r) := by
 unfold pS
 obtain ⟨m, _, he⟩ := g.s o' (((tx h x).2 ++ r).length + 1) r ho (by simp; omega) hr (by intro k hk; rw [hn] at hk; cases hk)
 rw [he, stop0 hn]
end
end Bk
end Sp
end Go.Proofs.YtiopfihjmkfdmaaGreatDoor
