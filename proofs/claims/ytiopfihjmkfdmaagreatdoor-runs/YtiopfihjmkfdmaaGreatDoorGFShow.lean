/- THE DOCUMENT'S ANSWER: Digits. -/
import Derived.Test.YtiopfihjmkfdmaaGreatDoorGRunA
import Derived.Test.YtiopfihjmkfdmaaGreatDoorGTree
import Derived.Test.YtiopfihjmkfdmaaGreatDoorGText
import Derived.Laws.BytesString
import Derived.Laws.Concat
import Derived.Test.YtiopfihjmkfdmaaGreatDoorGFTree
namespace Go.Proofs.YtiopfihjmkfdmaaGreatDoor
open Go.RowKit
set_option maxRecDepth 100000
set_option maxHeartbeats 2000000

theorem und_bytes : Tryz.prog.underlying 151 = some (.slice 5) := by kernel_rfl
theorem und_byte : Tryz.prog.underlying 5 = some (.int .u8) := by kernel_rfl
theorem und_str : Tryz.prog.underlying 9 = some .string := by kernel_rfl

/-- a byte as a string -/
theorem conv_byte (w : World) (x : Int) : (convert 151 9 (.slice (some ⟨w.heap.size, 0, none⟩) 1 1)).run Tryz.prog (w.alloc (.cells #[.int .u8 x] 5)) = .ok (.string ⟨#[UInt8.ofNat x.toNat]⟩) (w.alloc (.cells #[.int .u8 x] 5)) := by
  rw [run_convert_bytes_string _ _ _ _ _ _ _ und_bytes und_byte und_str]
  rw [run_bytesToString _ _ 1 1 [x] (by
    refine run_loadCells_list _ _ [.int .u8 x] ?_
    intro j v hj
    match j, hj with
    | 0, hj =>
      cases hj
      exact cell_of (heap_alloc_new _ _) 0 rfl)]
  rfl

theorem fDigits_calls : ∀ (f n : Nat), 0 < f → f ≤ 20 → n < 10 ^ f → n ≤ 32767 → ∀ w, Calls Tryz.prog 100 #[.int .i64 (n : Int)] w fun e w' => ∃ t : ByteArray, e = .returned (.string t) ∧ t.data.toList = Sp.digitsF f n ∧ Below w.heap.size w w'
  | 0, n, hf, _, _, _ => absurd hf (by omega)
  | f + 1, n, _, h20, hn, hm => by
    intro w
    have hc := conv_byte w (48 + (n : Int) % 10)
    have hB := below_alloc1 w (.cells #[.int .u8 (48 + (n : Int) % 10)] 5)
    have hd : (48 + (n : Int) % 10).toNat = 48 + n % 10 := by omega
    by_cases h10 : n < 10
    · go_enter Tryz.func100, Tryz.ntmps100
      go_wp2_with fail
      go_ret
      refine ⟨_, rfl, ?_, hB⟩
      unfold Sp.digitsF
      rw [if_pos h10, Nat.mod_eq_of_lt h10]
      simp [UInt8.ofNat_add]
    · have IH := fDigits_calls f (n / 10) (by
        rcases f with _ | f
        · simp at hn; omega
        · omega) (by omega) (by rw [Nat.pow_succ] at hn; omega) (by omega) (w.alloc (.cells #[.int .u8 (48 + (n : Int) % 10)] 5))
      have HF : Hid (Sp.digitsF (f + 1) n = Sp.digitsF f (n / 10) ++ [UInt8.ofNat (48 + n % 10)]) := by unfold Hid; rw [Sp.digitsF, if_neg h10]
      have HL : Hid ((Sp.digitsF f (n / 10)).length ≤ f) := Sp.digitsF_le _ _
      go_enter Tryz.func100, Tryz.ntmps100
      go_wp2_with fail
      refine IH.mono ?_
      rintro e w1 ⟨t, rfl, ht, hb⟩
      have hsz : t.size ≤ 100 := by
        have := HL.out
        rw [← ht] at this
        have e : t.data.toList.length = t.size := by simp
        omega
      go_wp2_with fail
      go_ret
      refine ⟨_, rfl, ?_, ?_⟩
      · simp [ht, HF.out]
      · exact hB.trans (hb.mono (by simp))

end Go.Proofs.YtiopfihjmkfdmaaGreatDoor

/- THE DOCUMENT'S ANSWER: its nodes, to be read only; rank. -/
namespace Go.Proofs.YtiopfihjmkfdmaaGreatDoor
open Go.RowKit
open Sp (Sm Bl Ct Tr)
set_option maxRecDepth 100000
set_option maxHeartbeats 2000000

/-- the nodes, to be read -/
structure FLook (pb g cap : Nat) (ns : List FNode) (w : World) : Prop where
  slice : w.cell? ⟨pb, 0, none⟩ = some (.slice (some ⟨g, 0, none⟩) ns.length cap)
  cells : ∀ (j : Nat) (d : FNode) (c : Nat) (u : Value), ns[j]? = some d → c < 10 → (fCell d)[c]? = some u → w.cell? ⟨g, j * 10 + c, none⟩ = some u
  ltp : pb < w.heap.size
  ltg : g < w.heap.size
  hcap : ns.length ≤ cap
  hmax : cap ≤ maxLen
  hn : ns.length ≤ 2000

theorem FLook.after {pb g cap : Nat} {ns : List FNode} {w w' : World} (h : FLook pb g cap ns w) (hb : Below w.heap.size w w') : FLook pb g cap ns w' :=
  ⟨by rw [hb.cell (p := ⟨pb, 0, none⟩) h.ltp]; exact h.slice, fun j d c u h1 h2 h3 => by rw [hb.cell (p := ⟨g, j * 10 + c, none⟩) h.ltg]; exact h.cells j d c u h1 h2 h3, Nat.lt_of_lt_of_le h.ltp hb.size, Nat.lt_of_lt_of_le h.ltg hb.size, h.hcap, h.hmax, h.hn⟩

theorem FLook.facts {pb g cap : Nat} {ns : List FNode} {w : World} (h : FLook pb g cap ns w) {j : Nat} {d : FNode} (hd : ns[j]? = some d) :
    j < ns.length ∧ w.cell? ⟨g, j * 10, none⟩ = some (.int .i64 d.kind) ∧ w.cell? ⟨g, j * 10 + 1, none⟩ = some (.int .i64 d.a) ∧ w.cell? ⟨g, j * 10 + 2, none⟩ = some (.int .i64 d.b) ∧ w.cell? ⟨g, j * 10 + 3, none⟩ = some (.int .i64 d.c) ∧ w.cell? ⟨g, j * 10 + 4, none⟩ = some (.int .i64 d.n) ∧ w.cell? ⟨g, j * 10 + 5, none⟩ = some (.int .i64 d.next) ∧ w.cell? ⟨g, j * 10 + 6, none⟩ = some (.string ⟨d.sign.toArray⟩) ∧ w.cell? ⟨g, j * 10 + 7, none⟩ = some (.int .i64 d.site) ∧ w.cell? ⟨g, j * 10 + 8, none⟩ = some (.int .i64 d.point) ∧ w.cell? ⟨g, j * 10 + 9, none⟩ = some (.bool d.els) := by
  have c := fun (c : Nat) {u : Value} (hc : c < 10) (hu : (fCell d)[c]? = some u) => h.cells j d c u hd hc hu
  exact ⟨(List.getElem?_eq_some_iff.1 hd).1, c 0 (by omega) rfl, c 1 (by omega) rfl, c 2 (by omega) rfl, c 3 (by omega) rfl, c 4 (by omega) rfl, c 5 (by omega) rfl, c 6 (by omega) rfl, c 7 (by omega) rfl, c 8 (by omega) rfl, c 9 (by omega) rfl⟩

/-- a node of one's own, later -/
theorem box10 {w w2 : World} {k a b c n nx st pt : Int} {sg : ByteArray} {el : Bool} (hb : Below (w.alloc (.cells #[.int .i64 k, .int .i64 a, .int .i64 b, .int .i64 c, .int .i64 n, .int .i64 nx, .string sg, .int .i64 st, .int .i64 pt, .bool el] 176)).heap.size (w.alloc (.cells #[.int .i64 k, .int .i64 a, .int .i64 b, .int .i64 c, .int .i64 n, .int .i64 nx, .string sg, .int .i64 st, .int .i64 pt, .bool el] 176)) w2) :
    w2.cell? ⟨w.heap.size, 0, none⟩ = some (.int .i64 k) ∧ w2.cell? ⟨w.heap.size, 1, none⟩ = some (.int .i64 a) ∧ w2.cell? ⟨w.heap.size, 2, none⟩ = some (.int .i64 b) ∧ w2.cell? ⟨w.heap.size, 3, none⟩ = some (.int .i64 c) ∧ w2.cell? ⟨w.heap.size, 4, none⟩ = some (.int .i64 n) ∧ w2.cell? ⟨w.heap.size, 5, none⟩ = some (.int .i64 nx) ∧ w2.cell? ⟨w.heap.size, 6, none⟩ = some (.string sg) ∧ w2.cell? ⟨w.heap.size, 7, none⟩ = some (.int .i64 st) ∧ w2.cell? ⟨w.heap.size, 8, none⟩ = some (.int .i64 pt) ∧ w2.cell? ⟨w.heap.size, 9, none⟩ = some (.bool el) := by
  have e := hb.block w.heap.size (by simp)
  rw [heap_alloc_new] at e
  exact ⟨cell_of e 0 rfl, cell_of e 1 rfl, cell_of e 2 rfl, cell_of e 3 rfl, cell_of e 4 rfl, cell_of e 5 rfl, cell_of e 6 rfl, cell_of e 7 rfl, cell_of e 8 rfl, cell_of e 9 rfl⟩

/-- behind the node of one's own -/
theorem below_box {w w2 : World} {o : Obj} (hb : Below (w.alloc o).heap.size (w.alloc o) w2) : Below w.heap.size w w2 := (below_alloc1 w o).trans (hb.mono (by simp))

/-- the level of a sum -/
def lev (x : Sm) : Nat := (show Nat × Sp.Bs from Sp.foldS Sp.Pr x).1
def txt (x : Sm) : Sp.Bs := (show Nat × Sp.Bs from Sp.foldS Sp.Pr x).2

theorem frank_other {pb g cap : Nat} {ns : List FNode} {w : World} (h : FLook pb g cap ns w) {k : Nat} {d : FNode} (hd : ns[k]? = some d) (hk : d.kind ≠ 4) :
    Calls Tryz.prog 101 #[.pointer (some ⟨pb, 0, none⟩), .int .i64 (k : Int)] w fun e w' => e = .returned (.int .i64 3) ∧ Below w.heap.size w w' := by
  have c0 := h.slice
  obtain ⟨hlt, r0, r1, r2, r3, r4, r5, r6, r7, r8, r9⟩ := h.facts hd
  have h1 := h.hcap
  have h2 := h.hmax
  have h3 := h.hn
  have hk2 : ¬ (d.kind = 4) := hk
  generalize d.kind = q at *
  clear h hd
  go_enter Tryz.func101, Tryz.ntmps101
  go_wp2_with fail
  go_ret
  exact ⟨rfl, below_alloc1 _ _⟩

theorem frank_bin {pb g cap : Nat} {ns : List FNode} {w : World} (h : FLook pb g cap ns w) {k : Nat} {d : FNode} (hd : ns[k]? = some d) (hk : d.kind = 4) {op : Nat} (hop : op < 5) (hs : d.sign = Sp.opSign op) :
    Calls Tryz.prog 101 #[.pointer (some ⟨pb, 0, none⟩), .int .i64 (k : Int)] w fun e w' => e = .returned (.int .i64 ((Sp.opLevel op + 1 : Nat) : Int)) ∧ Below w.heap.size w w' := by
  have c0 := h.slice
  obtain ⟨hlt, r0, r1, r2, r3, r4, r5, r6, r7, r8, r9⟩ := h.facts hd
  have h1 := h.hcap
  have h2 := h.hmax
  have h3 := h.hn
  rw [hk] at r0
  rw [hs] at r6
  clear h hd hk hs
  have : op = 0 ∨ op = 1 ∨ op = 2 ∨ op = 3 ∨ op = 4 := by omega
  rcases this with rfl | rfl | rfl | rfl | rfl
  all_goals
    simp only [Sp.opSign] at r6
    go_enter Tryz.func101, Tryz.ntmps101
    go_wp2_with fail
    go_ret
    exact ⟨rfl, below_alloc1 _ _⟩

end Go.Proofs.YtiopfihjmkfdmaaGreatDoor

/- THE DOCUMENT'S ANSWER: show, a sum as text. -/
namespace Go.Proofs.YtiopfihjmkfdmaaGreatDoor
open Go.RowKit
open Sp (Sm Bl Ct Tr)
set_option maxRecDepth 2000000
set_option maxHeartbeats 4000000

/-- the text of a sum where at least that level is asked for -/
def prt (x : Sm) (m : Nat) : Sp.Bs := if lev x < m then [40] ++ txt x ++ [41] else txt x

theorem size_list (t : ByteArray) : t.data.toList.length = t.size := by simp
theorem prt_len (x : Sm) (m : Nat) : (txt x).length ≤ (prt x m).length := by
  unfold prt
  split
  · simp; omega
  · exact Nat.le_refl _

/-- a byte as a string, wherever its block lies -/
theorem conv_byte_at (w : World) (b : Nat) (hb : b = w.heap.size) (x : Int) : (convert 151 9 (.slice (some ⟨b, 0, none⟩) 1 1)).run Tryz.prog (w.alloc (.cells #[.int .u8 x] 5)) = .ok (.string ⟨#[UInt8.ofNat x.toNat]⟩) (w.alloc (.cells #[.int .u8 x] 5)) := by
  subst hb; exact conv_byte w x

/-- show, of the sum x at node k -/
def FShows (pb g cap : Nat) (ns : List FNode) (x : Sm) (k : Nat) : Prop := ∀ (least : Nat) (w : World), 1 ≤ least → least ≤ 4 → (prt x (least - 1)).length ≤ 2000000 → FLook pb g cap ns w →
  Calls Tryz.prog 68 #[.pointer (some ⟨pb, 0, none⟩), .int .i64 (k : Int), .int .i64 (least : Int)] w fun e w' => ∃ t : ByteArray, e = .returned (.string t) ∧ t.data.toList = prt x (least - 1) ∧ Below w.heap.size w w'

theorem prt_fin {x : Sm} {least : Nat} {s : ByteArray} (hs : s.data.toList = txt x) (h : lev x + 1 < least) : ((⟨#[40]⟩ : ByteArray) ++ s ++ (⟨#[41]⟩ : ByteArray)).data.toList = prt x (least - 1) := by
  unfold prt
  rw [if_pos (by omega)]
  simp [hs]
theorem prt_not {x : Sm} {least : Nat} {s : ByteArray} (hs : s.data.toList = txt x) (h : ¬ lev x + 1 < least) : s.data.toList = prt x (least - 1) := by
  unfold prt
  rw [if_neg (by omega)]
  exact hs

theorem fshow_num {pb g cap : Nat} {ns : List FNode} {n k : Nat} {d : FNode} (hd : ns[k]? = some d) (hk : d.kind = 1) (hn : d.n = (n : Int)) (hm : n ≤ 32767) : FShows pb g cap ns (.num n) k := by
  intro least w hl1 hl4 hB h
  have c0 := h.slice
  obtain ⟨hlt, r0, r1, r2, r3, r4, r5, r6, r7, r8, r9⟩ := h.facts hd
  have h1 := h.hcap
  have h2 := h.hmax
  have h3 := h.hn
  have HR : Hid (∀ w', Below w.heap.size w w' → Calls Tryz.prog 101 #[.pointer (some ⟨pb, 0, none⟩), .int .i64 (k : Int)] w' fun e w'' => e = .returned (.int .i64 3) ∧ Below w'.heap.size w' w'') := fun w' hb => frank_other (h.after hb) hd (by rw [hk]; decide)
  rw [hk] at r0
  rw [hn] at r4
  clear h hd hk hn hB
  go_enter Tryz.func68, Tryz.ntmps68
  go_wp2_with fail
  refine (fDigits_calls 20 n (by omega) (by omega) (by omega) hm _).mono ?_
  rintro e w1 ⟨t, rfl, ht, hb⟩
  have HT : Hid (t.data.toList = txt (.num n)) := ht
  have HB : Hid (Below w.heap.size w w1) := below_box hb
  clear ht hb
  go_wp2_with fail
  refine (HR.out _ HB.out).mono ?_
  rintro e w2 ⟨rfl, hb2⟩
  have HB2 : Hid (Below w.heap.size w w2) := HB.out.trans (hb2.mono HB.out.size)
  have HL : lev (.num n) = 2 := rfl
  clear hb2
  by_cases hr : (3 : Int) < (least : Int)
  · have hsz : t.size ≤ 2000000 := by
      have := Sp.digitsF_le 20 n
      have e : t.data.toList = Sp.digitsF 20 n := HT.out
      rw [← size_list, e]; omega
    go_wp2_with fail
    go_ret
    exact ⟨_, rfl, prt_fin HT.out (by rw [HL]; omega), HB2.out⟩
  · go_wp2_with fail
    go_ret
    exact ⟨_, rfl, prt_not HT.out (by rw [HL]; omega), HB2.out⟩

theorem fshow_name {pb g cap : Nat} {ns : List FNode} {n k : Nat} {d : FNode} (hd : ns[k]? = some d) (hk : d.kind = 2) (hn : d.n = (n : Int)) (hm : n < 8) : FShows pb g cap ns (.name n) k := by
  intro least w hl1 hl4 hB h
  have c0 := h.slice
  obtain ⟨hlt, r0, r1, r2, r3, r4, r5, r6, r7, r8, r9⟩ := h.facts hd
  have h1 := h.hcap
  have h2 := h.hmax
  have h3 := h.hn
  have HR : Hid (∀ w', Below w.heap.size w w' → Calls Tryz.prog 101 #[.pointer (some ⟨pb, 0, none⟩), .int .i64 (k : Int)] w' fun e w'' => e = .returned (.int .i64 3) ∧ Below w'.heap.size w' w'') := fun w' hb => frank_other (h.after hb) hd (by rw [hk]; decide)
  rw [hk] at r0
  rw [hn] at r4
  have hc := fun (o : Obj) => conv_byte_at (w.alloc o) (w.heap.size + 1) (by simp) (97 + (n : Int))
  have HL : lev (.name n) = 2 := rfl
  clear h hd hk hn hB
  go_enter Tryz.func68, Tryz.ntmps68
  go_wp2_with fail
  refine (HR.out _ (below_box (below_alloc1 _ _))).mono ?_
  rintro e w2 ⟨rfl, hb2⟩
  have HB2 : Hid (Below w.heap.size w w2) := below_box ((below_alloc1 _ _).trans (hb2.mono (by simp)))
  clear hb2
  by_cases hr : (3 : Int) < (least : Int)
  · go_wp2_with fail
    go_ret
    refine ⟨_, rfl, ?_, HB2.out⟩
    unfold prt
    rw [if_pos (by rw [HL]; omega)]
    simp [txt, Sp.foldS, Sp.Pr, Sp.letter, UInt8.ofNat_add]
  · go_wp2_with fail
    go_ret
    refine ⟨_, rfl, ?_, HB2.out⟩
    unfold prt
    rw [if_neg (by rw [HL]; omega)]
    simp [txt, Sp.foldS, Sp.Pr, Sp.letter, UInt8.ofNat_add]

theorem fshow_neg {pb g cap : Nat} {ns : List FNode} {a k : Nat} {x : Sm} {d : FNode} (hd : ns[k]? = some d) (hk : d.kind = 3) (ha : d.a = (a : Int)) (IH : FShows pb g cap ns x a) : FShows pb g cap ns (.neg x) k := by
  intro least w hl1 hl4 hB h
  have c0 := h.slice
  obtain ⟨hlt, r0, r1, r2, r3, r4, r5, r6, r7, r8, r9⟩ := h.facts hd
  have h1 := h.hcap
  have h2 := h.hmax
  have h3 := h.hn
  have HR : Hid (∀ w', Below w.heap.size w w' → Calls Tryz.prog 101 #[.pointer (some ⟨pb, 0, none⟩), .int .i64 (k : Int)] w' fun e w'' => e = .returned (.int .i64 3) ∧ Below w'.heap.size w' w'') := fun w' hb => frank_other (h.after hb) hd (by rw [hk]; decide)
  have HX : Hid ((prt x 2).length + 1 ≤ 2000000) := by
    have := prt_len (.neg x) (least - 1)
    have e : txt (.neg x) = [45] ++ prt x 2 := rfl
    rw [e] at this
    simp at this
    unfold Hid; omega
  have HI : Hid (∀ w', Below w.heap.size w w' → Calls Tryz.prog 68 #[.pointer (some ⟨pb, 0, none⟩), .int .i64 (a : Int), .int .i64 3] w' fun e w'' => ∃ t : ByteArray, e = .returned (.string t) ∧ t.data.toList = prt x 2 ∧ Below w'.heap.size w' w'') := fun w' hb => IH 3 w' (by omega) (by omega) (by have := HX.out; show (prt x 2).length ≤ _; omega) (h.after hb)
  rw [hk] at r0
  rw [ha] at r1
  have HL : lev (.neg x) = 2 := rfl
  clear h hd hk ha hB IH
  go_enter Tryz.func68, Tryz.ntmps68
  go_wp2_with fail
  refine (HI.out _ (below_alloc1 _ _)).mono ?_
  rintro e w1 ⟨t, rfl, ht, hb⟩
  have hsz : t.size ≤ 2000000 := by rw [← size_list, ht]; have := HX.out; omega
  have HT : Hid (((⟨#[45]⟩ : ByteArray) ++ t).data.toList = txt (.neg x)) := by
    unfold Hid
    rw [show txt (.neg x) = [45] ++ prt x 2 from rfl, ← ht]; simp
  have HB : Hid (Below w.heap.size w w1) := below_box hb
  clear ht hb
  go_wp2_with fail
  refine (HR.out _ HB.out).mono ?_
  rintro e w2 ⟨rfl, hb2⟩
  have HB2 : Hid (Below w.heap.size w w2) := HB.out.trans (hb2.mono HB.out.size)
  clear hb2
  by_cases hr : (3 : Int) < (least : Int)
  · go_wp2_with fail
    go_ret
    exact ⟨_, rfl, prt_fin HT.out (by rw [HL]; omega), HB2.out⟩
  · go_wp2_with fail
    go_ret
    exact ⟨_, rfl, prt_not HT.out (by rw [HL]; omega), HB2.out⟩

theorem fshow_bin {pb g cap : Nat} {ns : List FNode} {a b k op : Nat} {x y : Sm} {d : FNode} (hd : ns[k]? = some d) (hk : d.kind = 4) (ha : d.a = (a : Int)) (hbb : d.b = (b : Int)) (hs : d.sign = Sp.opSign op) (hop : op < 5) (IHx : FShows pb g cap ns x a) (IHy : FShows pb g cap ns y b) : FShows pb g cap ns (.bin op x y) k := by
  intro least w hl1 hl4 hB h
  have c0 := h.slice
  obtain ⟨hlt, r0, r1, r2, r3, r4, r5, r6, r7, r8, r9⟩ := h.facts hd
  have h1 := h.hcap
  have h2 := h.hmax
  have h3 := h.hn
  have hv : Sp.opLevel op ≤ 1 := by unfold Sp.opLevel; split <;> omega
  obtain ⟨own, hown⟩ : ∃ own, own = Sp.opLevel op := ⟨_, rfl⟩
  have HR : Hid (∀ w', Below w.heap.size w w' → Calls Tryz.prog 101 #[.pointer (some ⟨pb, 0, none⟩), .int .i64 (k : Int)] w' fun e w'' => e = .returned (.int .i64 ((own : Int) + 1)) ∧ Below w'.heap.size w' w'') := fun w' hb => by
    have := frank_bin (h.after hb) hd hk hop hs
    rw [← hown] at this
    exact this
  have HE : Hid (txt (.bin op x y) = prt x own ++ [32] ++ Sp.opSign op ++ [32] ++ prt y (own + 1)) := by rw [hown]; exact rfl
  have HX : Hid ((prt x own).length + (prt y (own + 1)).length ≤ 2000000) := by
    have := prt_len (.bin op x y) (least - 1)
    rw [HE.out] at this
    simp at this
    unfold Hid; omega
  rw [← hown] at hv
  have HI : Hid (∀ w', Below w.heap.size w w' → Calls Tryz.prog 68 #[.pointer (some ⟨pb, 0, none⟩), .int .i64 (a : Int), .int .i64 ((own : Int) + 1)] w' fun e w'' => ∃ t : ByteArray, e = .returned (.string t) ∧ t.data.toList = prt x own ∧ Below w'.heap.size w' w'') := fun w' hb => IHx (own + 1) w' (by omega) (by omega) (by have := HX.out; show (prt x own).length ≤ _; omega) (h.after hb)
  have HJ : Hid (∀ w', Below w.heap.size w w' → Calls Tryz.prog 68 #[.pointer (some ⟨pb, 0, none⟩), .int .i64 (b : Int), .int .i64 ((own : Int) + 2)] w' fun e w'' => ∃ t : ByteArray, e = .returned (.string t) ∧ t.data.toList = prt y (own + 1) ∧ Below w'.heap.size w' w'') := fun w' hb => IHy (own + 2) w' (by omega) (by omega) (by have := HX.out; show (prt y (own + 1)).length ≤ _; omega) (h.after hb)
  have HS1 : Hid ((Sp.opSign op).length = 1) := Sp.opSign_one op
  rw [hk] at r0
  rw [ha] at r1
  rw [hbb] at r2
  rw [hs] at r6
  have HL : lev (.bin op x y) = own := by rw [hown]; rfl
  generalize Sp.opSign op = sg at *
  clear h hd hk ha hB IHx IHy hbb hs hown
  go_enter Tryz.func68, Tryz.ntmps68
  go_wp2_with fail
  refine (HR.out _ (below_alloc1 _ _)).mono ?_
  rintro e w1 ⟨rfl, hb1⟩
  obtain ⟨b0, b1, b2, b3, b4, b5, b6, b7, b8, b9⟩ := box10 hb1
  have HB1 : Hid (Below _ _ w1) := hb1
  clear hb1
  go_wp2_with fail
  refine (HI.out _ (below_box HB1.out)).mono ?_
  rintro e w2 ⟨t, rfl, ht, hb2⟩
  have HB2 : Hid (Below _ _ w2) := HB1.out.trans (hb2.mono HB1.out.size)
  have hsz : t.size ≤ 2000000 := by rw [← size_list, ht]; have := HX.out; omega
  obtain ⟨b0', b1', b2', b3', b4', b5', b6', b7', b8', b9'⟩ := box10 HB2.out
  have HTx : Hid (t.data.toList = prt x own) := ht
  clear ht hb2 HB1 b0 b1 b2 b3 b4 b5 b6 b7 b8 b9
  go_wp2_with fail
  refine (HJ.out _ (below_box HB2.out)).mono ?_
  rintro e w3 ⟨t', rfl, ht, hb3⟩
  have HB3 : Hid (Below _ _ w3) := HB2.out.trans (hb3.mono HB2.out.size)
  have hsz' : t'.size ≤ 2000000 := by rw [← size_list, ht]; have := HX.out; omega
  obtain ⟨b0, b1, b2, b3, b4, b5, b6, b7, b8, b9⟩ := box10 HB3.out
  have HTy : Hid (t'.data.toList = prt y (own + 1)) := ht
  have hss : sg.length = 1 := HS1.out
  have HT : Hid ((t ++ (⟨#[32]⟩ : ByteArray) ++ ⟨sg.toArray⟩ ++ (⟨#[32]⟩ : ByteArray) ++ t').data.toList = txt (.bin op x y)) := by
    unfold Hid
    rw [HE.out, ← HTx.out, ← HTy.out]; simp
  clear ht hb3 HB2 b0' b1' b2' b3' b4' b5' b6' b7' b8' b9'
  go_wp2_with fail
  refine (HR.out _ (below_box HB3.out)).mono ?_
  rintro e w4 ⟨rfl, hb4⟩
  have HB4 : Hid (Below w.heap.size w w4) := below_box (HB3.out.trans (hb4.mono HB3.out.size))
  clear hb4
  by_cases hr : (own : Int) + 1 < (least : Int)
  · go_wp2_with fail
    go_ret
    exact ⟨_, rfl, prt_fin HT.out (by rw [HL]; omega), HB4.out⟩
  · go_wp2_with fail
    go_ret
    exact ⟨_, rfl, prt_not HT.out (by rw [HL]; omega), HB4.out⟩

/-- a sum as text -/
theorem fshow_calls {pb g cap : Nat} {ns : List FNode} {lo : Nat} : ∀ {x : Sm} {k : Nat} {ct ct' : Ct}, FSm ns lo x k ct ct' → FShows pb g cap ns x k
  | .num _, _, _, _, ⟨_, h1, h2, h3, h4, _⟩ => fshow_num h1 h2 h3 h4
  | .name _, _, _, _, ⟨_, h1, h2, h3, h4, _⟩ => fshow_name h1 h2 h3 h4
  | .neg _, _, _, _, ⟨_, _, h1, h2, h3, _, h5⟩ => fshow_neg h1 h2 h3 (fshow_calls h5)
  | .bin _ _ _, _, _, _, ⟨_, _, _, _, h1, h2, h3, h4, h5, h6, _, _, h9, _, h11⟩ => fshow_bin h1 h2 h3 h4 h5 h6 (fshow_calls h9) (fshow_calls h11)

end Go.Proofs.YtiopfihjmkfdmaaGreatDoor

/- THE DOCUMENT'S ANSWER: ask, a condition as text. -/
namespace Go.Proofs.YtiopfihjmkfdmaaGreatDoor
open Go.RowKit
open Sp (Sm Bl Ct Tr)
set_option maxRecDepth 2000000
set_option maxHeartbeats 4000000

def ctxt (rel : Nat) (x y : Sm) : Sp.Bs := txt x ++ [32] ++ Sp.relSign rel ++ [32] ++ txt y

theorem prt_zero (x : Sm) : prt x (1 - 1) = txt x := by unfold prt; rw [if_neg (by omega)]

theorem fask_calls {pb g cap : Nat} {ns : List FNode} {lo rel k : Nat} {x y : Sm} {ct ct' : Ct} (hx : FCd ns lo rel x y k ct ct') (hB : (ctxt rel x y).length ≤ 2000000) {w : World} (h : FLook pb g cap ns w) :
    Calls Tryz.prog 69 #[.pointer (some ⟨pb, 0, none⟩), .int .i64 (k : Int)] w fun e w' => ∃ t : ByteArray, e = .returned (.string t) ∧ t.data.toList = ctxt rel x y ∧ Below w.heap.size w w' := by
  obtain ⟨d, a, b, ct1, hd, ha, hbb, hs, hrel, _, _, hxa, hyb⟩ := hx
  have c0 := h.slice
  obtain ⟨hlt, r0, r1, r2, r3, r4, r5, r6, r7, r8, r9⟩ := h.facts hd
  have h1 := h.hcap
  have h2 := h.hmax
  have h3 := h.hn
  have HE : Hid (ctxt rel x y = txt x ++ [32] ++ Sp.relSign rel ++ [32] ++ txt y) := rfl
  have HX : Hid ((txt x).length + (txt y).length ≤ 2000000) := by
    rw [HE.out] at hB
    simp at hB
    unfold Hid; omega
  have HI : Hid (∀ w', Below w.heap.size w w' → Calls Tryz.prog 68 #[.pointer (some ⟨pb, 0, none⟩), .int .i64 (a : Int), .int .i64 1] w' fun e w'' => ∃ t : ByteArray, e = .returned (.string t) ∧ t.data.toList = txt x ∧ Below w'.heap.size w' w'') := fun w' hb => by
    have := fshow_calls (pb := pb) (g := g) (cap := cap) hxa 1 w' (by omega) (by omega) (by rw [prt_zero]; have := HX.out; omega) (h.after hb)
    rw [prt_zero] at this
    exact this
  have HJ : Hid (∀ w', Below w.heap.size w w' → Calls Tryz.prog 68 #[.pointer (some ⟨pb, 0, none⟩), .int .i64 (b : Int), .int .i64 1] w' fun e w'' => ∃ t : ByteArray, e = .returned (.string t) ∧ t.data.toList = txt y ∧ Below w'.heap.size w' w'') := fun w' hb => by
    have := fshow_calls (pb := pb) (g := g) (cap := cap) hyb 1 w' (by omega) (by omega) (by rw [prt_zero]; have := HX.out; omega) (h.after hb)
    rw [prt_zero] at this
    exact this
  have hss : (Sp.relSign rel).length ≤ 2 := Sp.relSign_two rel
  rw [ha] at r1
  rw [hbb] at r2
  rw [hs] at r6
  generalize Sp.relSign rel = sg at *
  clear h hd ha hB hbb hs hxa hyb
  go_enter Tryz.func69, Tryz.ntmps69
  go_wp2_with fail
  refine (HI.out _ (below_alloc1 _ _)).mono ?_
  rintro e w2 ⟨t, rfl, ht, hb2⟩
  have HB2 : Hid (Below _ _ w2) := hb2
  have hsz : t.size ≤ 2000000 := by rw [← size_list, ht]; have := HX.out; omega
  obtain ⟨b0', b1', b2', b3', b4', b5', b6', b7', b8', b9'⟩ := box10 HB2.out
  have HTx : Hid (t.data.toList = txt x) := ht
  clear ht hb2
  go_wp2_with fail
  refine (HJ.out _ (below_box HB2.out)).mono ?_
  rintro e w3 ⟨t', rfl, ht, hb3⟩
  have HB3 : Hid (Below _ _ w3) := HB2.out.trans (hb3.mono HB2.out.size)
  have hsz' : t'.size ≤ 2000000 := by rw [← size_list, ht]; have := HX.out; omega
  obtain ⟨b0, b1, b2, b3, b4, b5, b6, b7, b8, b9⟩ := box10 HB3.out
  have HT : Hid ((t ++ (⟨#[32]⟩ : ByteArray) ++ ⟨sg.toArray⟩ ++ (⟨#[32]⟩ : ByteArray) ++ t').data.toList = ctxt rel x y) := by
    unfold Hid
    rw [HE.out, ← HTx.out, ← ht]; simp
  clear ht hb3 HB2 b0' b1' b2' b3' b4' b5' b6' b7' b8' b9'
  go_wp2_with fail
  go_ret
  exact ⟨_, rfl, HT.out, below_box HB3.out⟩

end Go.Proofs.YtiopfihjmkfdmaaGreatDoor
