/- THE DOCUMENT'S ANSWER: modulo, wrap, Holds. -/
import Derived.Test.YtiopfihjmkfdmaaGreatDoorGFRd
import Derived.Test.YtiopfihjmkfdmaaGreatDoorGFShow
namespace Go.Proofs.YtiopfihjmkfdmaaGreatDoor
open Go.RowKit
set_option maxRecDepth 100000
set_option maxHeartbeats 2000000

theorem tmod_cases (n : Int) : (n.tmod 65536 = n % 65536 ∧ 0 ≤ n.tmod 65536) ∨ (n.tmod 65536 = n % 65536 - 65536 ∧ n.tmod 65536 < 0) := by
  have h := Int.tmod_eq_emod (a := n) (b := 65536)
  have h0 := Int.emod_nonneg n (show (65536 : Int) ≠ 0 by decide)
  have h1 := Int.emod_lt_of_pos n (show (0 : Int) < 65536 by decide)
  by_cases hc : 0 ≤ n ∨ (65536 : Int) ∣ n
  · rw [if_pos hc] at h
    omega
  · rw [if_neg hc] at h
    have e : ((65536 : Int).natAbs : Int) = 65536 := rfl
    omega

theorem fmodulo_calls (n : Int) (w : World) :
    Calls Tryz.prog 141 #[.int .i64 n, .int .i64 65536] w fun e w' => e = .returned (.int .i64 (n % 65536)) ∧ w' = w := by
  rcases tmod_cases n with ⟨h1, h2⟩ | ⟨h1, h2⟩
  · have h3 : ¬ n.tmod 65536 < 0 := by omega
    go_enter Tryz.func141, Tryz.ntmps141
    go_wp2_with fail
    go_ret
    exact ⟨by rw [← h1]; rfl, rfl⟩
  · have h3 : RowKit.wrap64 (n.tmod 65536 + 65536) = n % 65536 := by
      have := Int.emod_nonneg n (show (65536 : Int) ≠ 0 by decide)
      rw [h1]; unfold RowKit.wrap64; omega
    go_enter Tryz.func141, Tryz.ntmps141
    go_wp2_with fail
    go_ret
    exact ⟨by rw [← h3]; rfl, rfl⟩

theorem w16_eq (n : Int) : Sp.w16 n = (n + 32768) % 65536 - 32768 := by
  have h : Sp.w16 n = if (32768 : Int) ≤ n % 65536 then n % 65536 - 65536 else n % 65536 := by
    unfold Sp.w16 IntKind.wrap
    simp [IntKind.bits, IntKind.signed]
  rw [h]
  split <;> omega

theorem fwrap_calls (n : Int) (w : World) :
    Calls Tryz.prog 103 #[.int .i64 n] w fun e w' => e = .returned (.int .i64 (Sp.w16 n)) ∧ w' = w := by
  have h0 := Int.emod_nonneg n (show (65536 : Int) ≠ 0 by decide)
  have h1 := Int.emod_lt_of_pos n (show (0 : Int) < 65536 by decide)
  have HW : Hid (Sp.w16 n = if 32767 < n % 65536 then n % 65536 - 65536 else n % 65536) := by
    unfold Hid
    rw [w16_eq]
    split <;> omega
  obtain ⟨q, hq⟩ : ∃ q, Hid (q = n % 65536) := ⟨_, rfl⟩
  have hq0 : 0 ≤ q := by rw [hq.out]; exact h0
  have hq1 : q < 65536 := by rw [hq.out]; exact h1
  have HM := fmodulo_calls n w
  rw [← hq.out] at HM
  have HW2 : Hid (Sp.w16 n = if 32767 < q then q - 65536 else q) := by rw [hq.out]; exact HW
  clear h0 h1 HW
  by_cases hc : 32767 < q
  · go_enter Tryz.func103, Tryz.ntmps103
    go_wp2_with fail
    refine HM.mono ?_
    rintro e w1 ⟨rfl, rfl⟩
    go_wp2_with fail
    go_ret
    exact ⟨by rw [HW2.out, if_pos hc]; rfl, rfl⟩
  · go_enter Tryz.func103, Tryz.ntmps103
    go_wp2_with fail
    refine HM.mono ?_
    rintro e w1 ⟨rfl, rfl⟩
    go_wp2_with fail
    go_ret
    exact ⟨by rw [HW2.out, if_neg (by omega)]; rfl, rfl⟩

theorem fHolds_calls (k : Nat) (hk : k < 6) (x y : Int) (w : World) :
    Calls Tryz.prog 104 #[.int .i64 x, .string ⟨(Sp.relSign k).toArray⟩, .int .i64 y] w fun e w' => e = .returned (.bool (Sp.holds k x y)) ∧ w' = w := by
  have : k = 0 ∨ k = 1 ∨ k = 2 ∨ k = 3 ∨ k = 4 ∨ k = 5 := by omega
  rcases this with rfl | rfl | rfl | rfl | rfl | rfl
  all_goals
    simp only [Sp.relSign]
    go_enter Tryz.func104, Tryz.ntmps104
    go_wp2_with fail
    go_ret
    refine ⟨ret_bool ?_, rfl⟩
    simp [Sp.holds]

end Go.Proofs.YtiopfihjmkfdmaaGreatDoor

/- THE DOCUMENT'S ANSWER: its machine in memory. -/
namespace Go.Proofs.YtiopfihjmkfdmaaGreatDoor
open Go.RowKit
open Sp (Sm Bl Ct Tr Rst)
set_option maxRecDepth 100000
set_option maxHeartbeats 2000000

def In16 (n : Int) : Prop := -32768 ≤ n ∧ n ≤ 32767
theorem in16_w16 (n : Int) : In16 (Sp.w16 n) := by rw [w16_eq]; unfold In16; omega

def stC (st : List Int) : Array Value := #[.int .i64 (st.getD 0 0), .int .i64 (st.getD 1 0), .int .i64 (st.getD 2 0), .int .i64 (st.getD 3 0), .int .i64 (st.getD 4 0), .int .i64 (st.getD 5 0), .int .i64 (st.getD 6 0), .int .i64 (st.getD 7 0)]
def mCells (pb S : Nat) (iv vv : Value) (f0 : Nat) (stop : Int) : Array Value := #[.pointer (some ⟨pb, 0, none⟩), iv, .int .i64 (f0 : Int), .slice (some ⟨S, 0, none⟩) 8 8, vv, .int .i64 stop]
def vCell (x : Int × List Int) (sb : Nat) : List Value := [.int .i64 x.1, .slice (some ⟨sb, 0, none⟩) 8 8]
def vCells (vis : List (Int × List Int)) (sbs : List Nat) : List Value := (List.zipWith vCell vis sbs).flatten

/-- numbers that lie below base -/
def InsAt (base : Nat) (w : World) (v : Value) (l : List Int) : Prop :=
  (∃ a c, v = .slice a 0 c ∧ l = []) ∨ ∃ g off cap, v = .slice (some ⟨g, off, none⟩) l.length cap ∧ g < base ∧ l.length ≤ cap ∧ ∀ i n, l[i]? = some n → w.cell? ⟨g, off + i, none⟩ = some (.int .i64 n)
theorem InsAt.below {base : Nat} {w w' : World} {v : Value} {l : List Int} (h : InsAt base w v l) (hb : Below base w w') : InsAt base w' v l := by
  rcases h with h | ⟨g, off, cap, h1, h2, h3, h4⟩
  · exact .inl h
  · exact .inr ⟨g, off, cap, h1, h2, h3, fun i n hn => by rw [hb.cell (p := ⟨g, off + i, none⟩) h2]; exact h4 i n hn⟩

/-- the stores that were copied -/
def Copies (base S : Nat) (w : World) (vis : List (Int × List Int)) (sbs : List Nat) : Prop :=
  sbs.length = vis.length ∧ ∀ (i sb : Nat) (x : Int × List Int), sbs[i]? = some sb → vis[i]? = some x → w.heap[sb]? = some (.cells (stC x.2) 3) ∧ base ≤ sb ∧ sb ≠ S

/-- the machine's block b, its store S, all from base on -/
structure MAt (base b pb S f0 : Nat) (stop : Int) (r : Rst) (w : World) : Prop where
  ex : ∃ (iv vv : Value) (sbs : List Nat), w.heap[b]? = some (.cells (mCells pb S iv vv f0 stop) 110) ∧ w.ownsRow base 113 2 vv r.vis.length (vCells r.vis sbs) ∧ Copies base S w r.vis sbs ∧ InsAt base w iv r.ins
  store : w.heap[S]? = some (.cells (stC r.st) 3)
  gb : base ≤ b
  gS : base ≤ S
  len : r.st.length = 8
  fuel : r.vis.length + r.fuel = f0
  f500 : f0 ≤ 500
  st16 : ∀ n ∈ r.st, In16 n
  in16 : ∀ n ∈ r.ins, In16 n
  vis16 : ∀ x ∈ r.vis, ∀ n ∈ x.2, In16 n

/-- what a run keeps -/
structure MK (base b S : Nat) (w w' : World) : Prop where
  below : Below base w w'
  others : ∀ k, k < w.heap.size → k ≠ b → k ≠ S → (∀ c fz, w.heap[k]? ≠ some (.cells c 113 fz)) → w'.heap[k]? = w.heap[k]?

theorem MK.refl (base b S : Nat) (w : World) : MK base b S w w := ⟨Below.refl _ _, fun _ _ _ _ _ => rfl⟩
theorem MK.trans {base b S : Nat} {w1 w2 w3 : World} (h : MK base b S w1 w2) (k : MK base b S w2 w3) : MK base b S w1 w3 :=
  ⟨h.below.trans k.below, fun i hi hb hS hn => by
    have e := h.others i hi hb hS hn
    rw [k.others i (Nat.lt_of_lt_of_le hi h.below.size) hb hS (by rw [e]; exact hn), e]⟩
theorem MK.of_below {base b S : Nat} {w w' : World} (h : Below w.heap.size w w') (hB : base ≤ w.heap.size) : MK base b S w w' := ⟨h.mono hB, fun k hk _ _ _ => h.block k hk⟩

theorem MAt.ltb {base b pb S f0 : Nat} {stop : Int} {r : Rst} {w : World} (h : MAt base b pb S f0 stop r w) : b < w.heap.size := by
  obtain ⟨_, _, _, h1, _⟩ := h.ex; exact heap_lt h1
theorem MAt.ltS {base b pb S f0 : Nat} {stop : Int} {r : Rst} {w : World} (h : MAt base b pb S f0 stop r w) : S < w.heap.size := heap_lt h.store
theorem MAt.le {base b pb S f0 : Nat} {stop : Int} {r : Rst} {w : World} (h : MAt base b pb S f0 stop r w) : base ≤ w.heap.size := by
  have := h.ltb; have := h.gb; omega
theorem MAt.ne {base b pb S f0 : Nat} {stop : Int} {r : Rst} {w : World} (h : MAt base b pb S f0 stop r w) : b ≠ S := by
  obtain ⟨_, _, _, h1, _⟩ := h.ex
  intro e
  have h2 := h.store
  rw [← e, h1] at h2
  cases h2

/-- only new blocks -/
theorem MAt.after {base b pb S f0 : Nat} {stop : Int} {r : Rst} {w w' : World} (h : MAt base b pb S f0 stop r w) (hb : Below w.heap.size w w') : MAt base b pb S f0 stop r w' := by
  have hle := h.le
  obtain ⟨iv, vv, sbs, h1, h2, h3, h4⟩ := h.ex
  refine ⟨⟨iv, vv, sbs, by rw [hb.block b (heap_lt h1)]; exact h1, ownsRow9_keep h2 (fun g hg => hb.block g (ownsRow9_lt h2 g hg).2.1), ⟨h3.1, fun i sb x e1 e2 => ?_⟩, h4.below (hb.mono hle)⟩, by rw [hb.block S h.ltS]; exact h.store, h.gb, h.gS, h.len, h.fuel, h.f500, h.st16, h.in16, h.vis16⟩
  obtain ⟨a1, a2, a3⟩ := h3.2 i sb x e1 e2
  exact ⟨by rw [hb.block sb (heap_lt a1)]; exact a1, a2, a3⟩

theorem m_stop {w : World} {b pb S f0 : Nat} {iv vv : Value} {stop : Int} (h : w.heap[b]? = some (.cells (mCells pb S iv vv f0 stop) 110)) (s : Int) : (w.setCell ⟨b, 5, none⟩ (.int .i64 s)).heap[b]? = some (.cells (mCells pb S iv vv f0 s) 110) := by
  rw [heap_setCell_at h 5 (.int .i64 s)]; rfl

theorem mach_ne : (110 : TypeId) ≠ 3 ∧ (110 : TypeId) ≠ 113 ∧ (3 : TypeId) ≠ 113 ∧ (176 : TypeId) ≠ 113 := by decide

/-- a block of the machine's is written: nothing else of it changes -/
theorem MAt.stopped {base b pb S f0 : Nat} {stop : Int} {r : Rst} {w : World} (h : MAt base b pb S f0 stop r w) (s : Int) : MAt base b pb S f0 s r (w.setCell ⟨b, 5, none⟩ (.int .i64 s)) ∧ MK base b S w (w.setCell ⟨b, 5, none⟩ (.int .i64 s)) := by
  have hne := h.ne
  obtain ⟨iv, vv, sbs, h1, h2, h3, h4⟩ := h.ex
  have hB : Below base w (w.setCell ⟨b, 5, none⟩ (.int .i64 s)) := (Below.refl _ _).setCell (p := ⟨b, 5, none⟩) h.gb _
  refine ⟨⟨⟨iv, vv, sbs, m_stop h1 s, ownsRow9_keep h2 (fun g hg => Below.heap_setCell _ _ _ _ (fun e => ?_)), ⟨h3.1, fun i sb x e1 e2 => ?_⟩, h4.below hB⟩, by rw [Below.heap_setCell _ _ _ _ (Ne.symm hne)]; exact h.store, h.gb, h.gS, h.len, h.fuel, h.f500, h.st16, h.in16, h.vis16⟩, hB, fun k _ hb _ _ => Below.heap_setCell _ _ _ _ hb⟩
  · obtain ⟨_, _, c, hc⟩ := ownsRow9_lt h2 g hg
    rw [show g = b from e, h1] at hc
    cases hc
  · obtain ⟨a1, a2, a3⟩ := h3.2 i sb x e1 e2
    refine ⟨?_, a2, a3⟩
    rw [Below.heap_setCell _ _ _ _ (fun e => by rw [show sb = b from e, h1] at a1; cases a1)]
    exact a1

/-- a node of one's own, behind a step of the machine -/
theorem MK.box {base b S : Nat} {w w2 : World} {k a bb c n nx st pt : Int} {sg : ByteArray} {el : Bool} (hb : b < w.heap.size) (hS : S < w.heap.size) (h : MK base b S (w.alloc (.cells #[.int .i64 k, .int .i64 a, .int .i64 bb, .int .i64 c, .int .i64 n, .int .i64 nx, .string sg, .int .i64 st, .int .i64 pt, .bool el] 176)) w2) :
    w2.cell? ⟨w.heap.size, 0, none⟩ = some (.int .i64 k) ∧ w2.cell? ⟨w.heap.size, 1, none⟩ = some (.int .i64 a) ∧ w2.cell? ⟨w.heap.size, 2, none⟩ = some (.int .i64 bb) ∧ w2.cell? ⟨w.heap.size, 3, none⟩ = some (.int .i64 c) ∧ w2.cell? ⟨w.heap.size, 4, none⟩ = some (.int .i64 n) ∧ w2.cell? ⟨w.heap.size, 5, none⟩ = some (.int .i64 nx) ∧ w2.cell? ⟨w.heap.size, 6, none⟩ = some (.string sg) ∧ w2.cell? ⟨w.heap.size, 7, none⟩ = some (.int .i64 st) ∧ w2.cell? ⟨w.heap.size, 8, none⟩ = some (.int .i64 pt) ∧ w2.cell? ⟨w.heap.size, 9, none⟩ = some (.bool el) := by
  have e := h.others w.heap.size (by simp) (by omega) (by omega) (fun c' fz e => by rw [heap_alloc_new] at e; cases e)
  rw [heap_alloc_new] at e
  exact ⟨cell_of e 0 rfl, cell_of e 1 rfl, cell_of e 2 rfl, cell_of e 3 rfl, cell_of e 4 rfl, cell_of e 5 rfl, cell_of e 6 rfl, cell_of e 7 rfl, cell_of e 8 rfl, cell_of e 9 rfl⟩

/-- what is read of the machine's block -/
theorem MAt.cells {base b pb S f0 : Nat} {stop : Int} {r : Rst} {w : World} (h : MAt base b pb S f0 stop r w) : w.cell? ⟨b, 0, none⟩ = some (.pointer (some ⟨pb, 0, none⟩)) ∧ w.cell? ⟨b, 2, none⟩ = some (.int .i64 (f0 : Int)) ∧ w.cell? ⟨b, 3, none⟩ = some (.slice (some ⟨S, 0, none⟩) 8 8) ∧ w.cell? ⟨b, 5, none⟩ = some (.int .i64 stop) ∧ w.frozen? ⟨b, 5, none⟩ = false := by
  obtain ⟨iv, vv, sbs, h1, _⟩ := h.ex
  exact ⟨cell_of h1 0 rfl, cell_of h1 2 rfl, cell_of h1 3 rfl, cell_of h1 5 rfl, frozen_of h1 5⟩

theorem MAt.var {base b pb S f0 : Nat} {stop : Int} {r : Rst} {w : World} (h : MAt base b pb S f0 stop r w) {v : Nat} (hv : v < 8) : w.cell? ⟨S, v, none⟩ = some (.int .i64 (r.st.getD v 0)) ∧ w.frozen? ⟨S, v, none⟩ = false ∧ In16 (r.st.getD v 0) := by
  refine ⟨?_, frozen_of h.store v, ?_⟩
  · have : v = 0 ∨ v = 1 ∨ v = 2 ∨ v = 3 ∨ v = 4 ∨ v = 5 ∨ v = 6 ∨ v = 7 := by omega
    rcases this with rfl | rfl | rfl | rfl | rfl | rfl | rfl | rfl <;> exact cell_of h.store _ rfl
  · have hl := h.len
    rw [List.getD_eq_getElem?_getD, List.getElem?_eq_getElem (by omega)]
    exact h.st16 _ (List.getElem_mem _)

theorem FLook.below {pb g cap base : Nat} {ns : List FNode} {w w' : World} (h : FLook pb g cap ns w) (hp : pb < base) (hg : g < base) (hb : Below base w w') : FLook pb g cap ns w' :=
  ⟨by rw [hb.cell (p := ⟨pb, 0, none⟩) hp]; exact h.slice, fun j d c u h1 h2 h3 => by rw [hb.cell (p := ⟨g, j * 10 + c, none⟩) hg]; exact h.cells j d c u h1 h2 h3, Nat.lt_of_lt_of_le h.ltp hb.size, Nat.lt_of_lt_of_le h.ltg hb.size, h.hcap, h.hmax, h.hn⟩

end Go.Proofs.YtiopfihjmkfdmaaGreatDoor

/- THE DOCUMENT'S ANSWER: worth, what a sum comes to. -/
namespace Go.Proofs.YtiopfihjmkfdmaaGreatDoor
open Go.RowKit
open Sp (Sm Bl Ct Tr Rst)
set_option maxRecDepth 100000
set_option maxHeartbeats 4000000

/-- what a sum comes to, and the counters behind it -/
def evS (x : Sm) (ct : Ct) : Sp.Ev := (show Ct → Sp.Ev × Ct from Sp.foldS Sp.Rn x) ct |>.1
def ctS (x : Sm) (ct : Ct) : Ct := (show Ct → Sp.Ev × Ct from Sp.foldS Sp.Rn x) ct |>.2

theorem ctS_bin (op : Nat) (x y : Sm) (ct : Ct) : ctS (.bin op x y) ct = ctS y (if 3 ≤ op then Sp.siteUp (ctS x ct) else ctS x ct) := by
  unfold ctS
  show ((if 3 ≤ op then _ else _ : Sp.Ev × Ct)).2 = _
  split <;> rfl
theorem evS_bin (op : Nat) (x y : Sm) (ct : Ct) : evS (.bin op x y) ct = Sp.evBin op (if 3 ≤ op then (ctS x ct).2 else 0) (evS x ct) (evS y (if 3 ≤ op then Sp.siteUp (ctS x ct) else ctS x ct)) := by
  unfold evS
  show ((if 3 ≤ op then _ else _ : Sp.Ev × Ct)).1 = _
  split <;> rfl

theorem FSm.ct {ns : List FNode} {lo : Nat} : ∀ {x : Sm} {k : Nat} {ct ct' : Ct}, FSm ns lo x k ct ct' → ct' = ctS x ct
  | .num _, _, _, _, ⟨_, _, _, _, _, _, h⟩ => h
  | .name _, _, _, _, ⟨_, _, _, _, _, _, h⟩ => h
  | .neg x, _, _, _, ⟨_, _, _, _, _, _, h⟩ => h.ct
  | .bin op x y, _, _, _, ⟨_, _, _, _, _, _, _, _, _, _, _, _, h1, _, h2⟩ => by rw [ctS_bin, ← h1.ct]; exact h2.ct

/-- no site is taken for 'it goes on' -/
def NoGo : Sm → Ct → Prop
  | .num _, _ => True
  | .name _, _ => True
  | .neg x, ct => NoGo x ct
  | .bin op x y, ct => NoGo x ct ∧ (3 ≤ op → (ctS x ct).2 ≠ -3) ∧ NoGo y (if 3 ≤ op then Sp.siteUp (ctS x ct) else ctS x ct)

theorem nogo_err : ∀ {x : Sm} {ct : Ct} {st : List Int} {s : Int}, NoGo x ct → evS x ct st = .error s → s ≠ -3
  | .num _, _, _, _, _, e => nomatch e
  | .name _, _, _, _, _, e => nomatch e
  | .neg x, ct, st, s, h, e => by
    have e' : Sp.evNeg (evS x ct) st = .error s := e
    unfold Sp.evNeg at e'
    split at e'
    · rename_i q hq
      cases e'
      exact nogo_err (x := x) h hq
    · cases e'
  | .bin op x y, ct, st, s, ⟨h1, h2, h3⟩, e => by
    rw [evS_bin] at e
    unfold Sp.evBin at e
    split at e
    · rename_i q hq
      cases e
      exact nogo_err h1 hq
    · split at e
      · rename_i q hq
        cases e
        exact nogo_err h3 hq
      · split at e
        · cases e
        · rename_i hw
          cases e
          by_cases h : 3 ≤ op
          · rw [if_pos h]; exact h2 h
          · exfalso
            unfold Sp.work at hw
            have : op = 0 ∨ op = 1 ∨ op = 2 := by omega
            rcases this with rfl | rfl | rfl <;> simp at hw

/-- worth, of the sum x at node k; where the run has stopped nothing happens -/
structure FWorths (base b pb S f0 g cap : Nat) (ns : List FNode) (x : Sm) (k : Nat) (ct : Ct) : Prop where
  go : ∀ (r : Rst) (w : World), MAt base b pb S f0 (-3) r w → FLook pb g cap ns w → Calls Tryz.prog 73 #[.pointer (some ⟨b, 0, none⟩), .int .i64 (k : Int)] w fun e w' => ∃ n : Int, e = .returned (.int .i64 n) ∧ MK base b S w w' ∧
    match evS x ct r.st with
    | .ok v => n = v ∧ In16 v ∧ MAt base b pb S f0 (-3) r w'
    | .error s => MAt base b pb S f0 s r w'
  idle : ∀ (s : Int) (r : Rst) (w : World), s ≠ -3 → MAt base b pb S f0 s r w → FLook pb g cap ns w → Calls Tryz.prog 73 #[.pointer (some ⟨b, 0, none⟩), .int .i64 (k : Int)] w fun e w' => ∃ n : Int, e = .returned (.int .i64 n) ∧ MK base b S w w' ∧ MAt base b pb S f0 s r w'

theorem fworth_num {base b pb S f0 g cap : Nat} {ns : List FNode} {n k : Nat} {d : FNode} (ct : Ct) (hd : ns[k]? = some d) (hk : d.kind = 1) (hn : d.n = (n : Int)) (hm : n ≤ 32767) : FWorths base b pb S f0 g cap ns (.num n) k ct := by
  have main : ∀ (s : Int) (r : Rst) (w : World), MAt base b pb S f0 s r w → FLook pb g cap ns w → Calls Tryz.prog 73 #[.pointer (some ⟨b, 0, none⟩), .int .i64 (k : Int)] w fun e w' => e = .returned (.int .i64 (n : Int)) ∧ MK base b S w w' ∧ MAt base b pb S f0 s r w' := by
    intro s r w hM h
    obtain ⟨m0, m2, m3, m5, f5⟩ := hM.cells
    have c0 := h.slice
    obtain ⟨hlt, r0, r1, r2, r3, r4, r5, r6, r7, r8, r9⟩ := h.facts hd
    have h1 := h.hcap
    have h2 := h.hmax
    have h3 := h.hn
    rw [hk] at r0
    rw [hn] at r4
    have HM : Hid (MAt base b pb S f0 s r w) := hM
    clear h hd hk hn hM
    go_enter Tryz.func73, Tryz.ntmps73
    go_wp2_with fail
    go_ret
    exact ⟨rfl, MK.of_below (below_alloc1 _ _) HM.out.le, HM.out.after (below_alloc1 _ _)⟩
  exact ⟨fun r w hM h => (main _ r w hM h).mono fun e w' ⟨he, hk, hm'⟩ => ⟨_, he, hk, rfl, ⟨by omega, by omega⟩, hm'⟩, fun s r w _ hM h => (main s r w hM h).mono fun e w' ⟨he, hk, hm'⟩ => ⟨_, he, hk, hm'⟩⟩

theorem fworth_name {base b pb S f0 g cap : Nat} {ns : List FNode} {n k : Nat} {d : FNode} (ct : Ct) (hd : ns[k]? = some d) (hk : d.kind = 2) (hn : d.n = (n : Int)) (hm : n < 8) : FWorths base b pb S f0 g cap ns (.name n) k ct := by
  have main : ∀ (s : Int) (r : Rst) (w : World), MAt base b pb S f0 s r w → FLook pb g cap ns w → Calls Tryz.prog 73 #[.pointer (some ⟨b, 0, none⟩), .int .i64 (k : Int)] w fun e w' => e = .returned (.int .i64 (r.st.getD n 0)) ∧ MK base b S w w' ∧ MAt base b pb S f0 s r w' := by
    intro s r w hM h
    obtain ⟨m0, m2, m3, m5, f5⟩ := hM.cells
    obtain ⟨v0, _, _⟩ := hM.var hm
    have c0 := h.slice
    obtain ⟨hlt, r0, r1, r2, r3, r4, r5, r6, r7, r8, r9⟩ := h.facts hd
    have h1 := h.hcap
    have h2 := h.hmax
    have h3 := h.hn
    rw [hk] at r0
    rw [hn] at r4
    have hltb := hM.ltb
    have hltS := hM.ltS
    have HM : Hid (MAt base b pb S f0 s r w) := hM
    clear h hd hk hn hM
    generalize r.st.getD n 0 = q at *
    go_enter Tryz.func73, Tryz.ntmps73
    go_wp2_with fail
    go_region_with (fail)
    all_goals
      go_wp2_with fail
      go_ret
      exact ⟨rfl, MK.of_below (below_alloc1 _ _).drew HM.out.le, HM.out.after (below_alloc1 _ _).drew⟩
  exact ⟨fun r w hM h => (main _ r w hM h).mono fun e w' ⟨he, hk, hm'⟩ => ⟨_, he, hk, rfl, (hM.var hm).2.2, hm'⟩, fun s r w _ hM h => (main s r w hM h).mono fun e w' ⟨he, hk, hm'⟩ => ⟨_, he, hk, hm'⟩⟩

/-- the nodes are there, whatever a step of the machine does -/
structure FGround (base pb g : Nat) : Prop where
  p : pb < base
  g : g < base

theorem w16_neg {n : Int} (h : In16 n) : Sp.w16 (RowKit.wrap64 (-n)) = Sp.w16 (-n) := by
  obtain ⟨h1, h2⟩ := h
  have : RowKit.wrap64 (-n) = -n := by unfold RowKit.wrap64; omega
  rw [this]

theorem fworth_neg {base b pb S f0 g cap : Nat} {ns : List FNode} {x : Sm} {a k : Nat} {d : FNode} {ct : Ct} (hd : ns[k]? = some d) (hk : d.kind = 3) (ha : d.a = (a : Int)) (IH : FWorths base b pb S f0 g cap ns x a ct) : FWorths base b pb S f0 g cap ns (.neg x) k ct := by
  have main : ∀ (s : Int) (r : Rst) (w : World) (Q : Int → World → Prop), MAt base b pb S f0 s r w → FLook pb g cap ns w → (∀ w', MK base b S w w' → MAt base b pb S f0 s r w' → FLook pb g cap ns w' → Calls Tryz.prog 73 #[.pointer (some ⟨b, 0, none⟩), .int .i64 (a : Int)] w' fun e w'' => ∃ n : Int, e = .returned (.int .i64 n) ∧ MK base b S w' w'' ∧ Q n w'') →
      Calls Tryz.prog 73 #[.pointer (some ⟨b, 0, none⟩), .int .i64 (k : Int)] w fun e w' => ∃ n : Int, e = .returned (.int .i64 (Sp.w16 (RowKit.wrap64 (-n)))) ∧ MK base b S w w' ∧ Q n w' := by
    intro s r w Q hM h hcall
    obtain ⟨m0, m2, m3, m5, f5⟩ := hM.cells
    have c0 := h.slice
    obtain ⟨hlt, r0, r1, r2, r3, r4, r5, r6, r7, r8, r9⟩ := h.facts hd
    have h1 := h.hcap
    have h2 := h.hmax
    have h3 := h.hn
    rw [hk] at r0
    rw [ha] at r1
    have hltb := hM.ltb
    have HM : Hid (MAt base b pb S f0 s r w) := hM
    have HK : Hid (MK base b S w (w.alloc (.cells #[.int .i64 3, .int .i64 (a : Int), .int .i64 d.b, .int .i64 d.c, .int .i64 d.n, .int .i64 d.next, .string ⟨d.sign.toArray⟩, .int .i64 d.site, .int .i64 d.point, .bool d.els] 176))) := MK.of_below (below_alloc1 _ _) hM.le
    have HC : Hid (Calls _ _ _ _ _) := hcall _ HK.out (hM.after (below_alloc1 _ _)) (h.after (below_alloc1 _ _))
    clear h hd hk ha hM hcall
    go_enter Tryz.func73, Tryz.ntmps73
    go_wp2_with fail
    refine HC.out.mono ?_
    rintro e w2 ⟨n, rfl, k2, q2⟩
    go_wp2_with fail
    refine (fwrap_calls _ _).mono ?_
    rintro e w3 ⟨rfl, rfl⟩
    go_wp2_with fail
    go_ret
    exact ⟨n, rfl, HK.out.trans k2, q2⟩
  constructor
  · intro r w hM h
    have := main (-3) r w (fun n w' => match evS x ct r.st with
      | .ok v => n = v ∧ In16 v ∧ MAt base b pb S f0 (-3) r w'
      | .error s => MAt base b pb S f0 s r w') hM h (fun w' _ hM' h' => IH.go r w' hM' h')
    refine this.mono ?_
    rintro e w' ⟨n, rfl, hk', hq⟩
    refine ⟨_, rfl, hk', ?_⟩
    have e : evS (.neg x) ct r.st = Sp.evNeg (evS x ct) r.st := rfl
    rw [e]
    unfold Sp.evNeg
    revert hq
    cases evS x ct r.st with
    | error s => exact fun hq => hq
    | ok v => exact fun hq => ⟨by rw [hq.1]; exact w16_neg hq.2.1, in16_w16 _, hq.2.2⟩
  · intro s r w hs hM h
    refine (main s r w (fun _ w' => MAt base b pb S f0 s r w') hM h (fun w' _ hM' h' => IH.idle s r w' hs hM' h')).mono ?_
    rintro e w' ⟨n, rfl, hk', hq⟩
    exact ⟨_, rfl, hk', hq⟩

end Go.Proofs.YtiopfihjmkfdmaaGreatDoor
