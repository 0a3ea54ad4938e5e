/- THE DOCUMENT'S ANSWER: no site of a program that was read is taken for 'it goes on' (plain). -/
import Derived.Test.YtiopfihjmkfdmaaGreatDoorGMc
import Derived.Test.YtiopfihjmkfdmaaGreatDoorGPassN
import Derived.Test.YtiopfihjmkfdmaaGreatDoorGMd
import Derived.Test.YtiopfihjmkfdmaaGreatDoorGFPrint
import Derived.Test.YtiopfihjmkfdmaaGreatDoorGRunD
namespace Go.Proofs.YtiopfihjmkfdmaaGreatDoor
open Go.RowKit
open Sp (Sm Bl Ct Tr Rst Out)
set_option maxHeartbeats 1000000

theorem siteUp_small {ct : Ct} (h0 : 0 ≤ ct.2) (h1 : ct.2 ≤ 1000000000) : (Sp.siteUp ct).2 = ct.2 + 1 := by
  show RowKit.wrap64 (ct.2 + 1) = _
  unfold RowKit.wrap64
  omega

def SiteS (n : Nat) (x : Sm) : Prop := ∀ ct : Ct, 0 ≤ ct.2 → ct.2 + n ≤ 100000 → NoGo x ct ∧ ct.2 ≤ (ctS x ct).2 ∧ (ctS x ct).2 ≤ ct.2 + n
def SiteT (n : Nat) (f : Bl → Bl) : Prop := ∀ ct : Ct, 0 ≤ ct.2 → ct.2 + n ≤ 100000 → ∃ ct1 : Ct, ct.2 ≤ ct1.2 ∧ ct1.2 ≤ ct.2 + n ∧ ∀ rest, (NGB rest ct1 → NGB (f rest) ct) ∧ ctB (f rest) ct = ctB rest ct1

theorem siteL : ∀ {n : Nat} {fs : List (Bl → Bl)}, Sp.Pn.QL SiteT n fs → ∀ ct : Ct, 0 ≤ ct.2 → ct.2 + n ≤ 100000 → NGB (Sp.joinB fs) ct ∧ ct.2 ≤ (ctB (Sp.joinB fs) ct).2 ∧ (ctB (Sp.joinB fs) ct).2 ≤ ct.2 + n
  | n, [], _, ct, _, _ => ⟨trivial, Int.le_refl _, by show ct.2 ≤ _; omega⟩
  | n, f :: fs, ⟨a, b, hab, h1, h2⟩, ct, h0, hn => by
    obtain ⟨ct1, c1, c2, c3⟩ := h1 ct h0 (by omega)
    obtain ⟨d1, d2, d3⟩ := siteL h2 ct1 (by omega) (by omega)
    obtain ⟨e1, e2⟩ := c3 (Sp.joinB fs)
    refine ⟨e1 d1, ?_, ?_⟩
    · show ct.2 ≤ (ctB (f (Sp.joinB fs)) ct).2
      rw [e2]; omega
    · show (ctB (f (Sp.joinB fs)) ct).2 ≤ _
      rw [e2]; omega

theorem site_made : Sp.Pn.Made Tr (fun n (x : Sm) => SiteS n x) (fun n (f : Bl → Bl) => SiteT n f) where
  pm n m x h hn ct h0 h1 := by
    obtain ⟨a, b, c⟩ := h ct h0 (by omega)
    exact ⟨a, b, by omega⟩
  qm n m x h hn ct h0 h1 := by
    obtain ⟨ct1, a, b, c⟩ := h ct h0 (by omega)
    exact ⟨ct1, a, by omega, c⟩
  num v _ ct h0 h1 := ⟨trivial, Int.le_refl _, by show ct.2 ≤ _; omega⟩
  name k _ ct h0 h1 := ⟨trivial, Int.le_refl _, by show ct.2 ≤ _; omega⟩
  neg n x h ct h0 h1 := h ct h0 h1
  bin k n m x y hk hx hy ct h0 h1 := by
    obtain ⟨a, b, c⟩ := hx ct h0 (by omega)
    have e : ctS (Tr.bin k x y) ct = _ := ctS_bin k x y ct
    by_cases h3 : 3 ≤ k
    · have es := siteUp_small (ct := ctS x ct) (by omega) (by omega)
      obtain ⟨a', b', c'⟩ := hy (Sp.siteUp (ctS x ct)) (by omega) (by omega)
      rw [if_pos h3] at e
      rw [e]
      exact ⟨⟨a, fun _ => by omega, by rw [if_pos h3]; exact a'⟩, by omega, by omega⟩
    · obtain ⟨a', b', c'⟩ := hy (ctS x ct) (by omega) (by omega)
      rw [if_neg h3] at e
      rw [e]
      exact ⟨⟨a, fun h => absurd h h3, by rw [if_neg h3]; exact a'⟩, by omega, by omega⟩
  assign k n x _ h ct h0 h1 := by
    obtain ⟨a, b, c⟩ := h (Sp.ptUp ct) h0 (by show ct.2 + (n : Int) ≤ _; omega)
    have c0 : (ctS x (Sp.ptUp ct)).2 ≤ ct.2 + n := c
    exact ⟨ctS x (Sp.ptUp ct), b, by omega, fun rest => ⟨fun hr => ⟨a, hr⟩, rfl⟩⟩
  read k _ ct h0 h1 := ⟨Sp.ptUp ct, Int.le_refl _, by show ct.2 ≤ _; omega, fun rest => ⟨fun hr => hr, rfl⟩⟩
  assert k n m x y _ hx hy ct h0 h1 := by
    have es : (Sp.siteUp (Sp.ptUp ct)).2 = ct.2 + 1 := siteUp_small (ct := Sp.ptUp ct) h0 (by show ct.2 ≤ _; omega)
    obtain ⟨a, b, c⟩ := hx (Sp.siteUp (Sp.ptUp ct)) (by omega) (by omega)
    obtain ⟨a', b', c'⟩ := hy (ctS x (Sp.siteUp (Sp.ptUp ct))) (by omega) (by omega)
    exact ⟨ctS y (ctS x (Sp.siteUp (Sp.ptUp ct))), by omega, by omega, fun rest => ⟨fun hr => ⟨by omega, ⟨a, a'⟩, hr⟩, rfl⟩⟩
  ite k n m j x y xs _ hx hy hxs ct h0 h1 := by
    obtain ⟨a, b, c⟩ := hx (Sp.ptUp ct) h0 (by show ct.2 + (n : Int) ≤ _; omega)
    have b0 : ct.2 ≤ (ctS x (Sp.ptUp ct)).2 := b
    have c0 : (ctS x (Sp.ptUp ct)).2 ≤ ct.2 + n := c
    obtain ⟨a', b', c'⟩ := hy (ctS x (Sp.ptUp ct)) (by omega) (by omega)
    obtain ⟨g1, g2, g3⟩ := siteL hxs (ctS y (ctS x (Sp.ptUp ct))) (by omega) (by omega)
    exact ⟨ctB (Sp.joinB xs) (ctS y (ctS x (Sp.ptUp ct))), by omega, by omega, fun rest => ⟨fun hr => ⟨⟨a, a'⟩, g1, trivial, hr⟩, rfl⟩⟩
  iteElse k n m j i x y xs ys _ hx hy hxs hys ct h0 h1 := by
    obtain ⟨a, b, c⟩ := hx (Sp.ptUp ct) h0 (by show ct.2 + (n : Int) ≤ _; omega)
    have b0 : ct.2 ≤ (ctS x (Sp.ptUp ct)).2 := b
    have c0 : (ctS x (Sp.ptUp ct)).2 ≤ ct.2 + n := c
    obtain ⟨a', b', c'⟩ := hy (ctS x (Sp.ptUp ct)) (by omega) (by omega)
    obtain ⟨g1, g2, g3⟩ := siteL hxs (ctS y (ctS x (Sp.ptUp ct))) (by omega) (by omega)
    obtain ⟨k1, k2, k3⟩ := siteL hys (ctB (Sp.joinB xs) (ctS y (ctS x (Sp.ptUp ct)))) (by omega) (by omega)
    exact ⟨ctB (Sp.joinB ys) (ctB (Sp.joinB xs) (ctS y (ctS x (Sp.ptUp ct)))), by omega, by omega, fun rest => ⟨fun hr => ⟨⟨a, a'⟩, g1, k1, hr⟩, rfl⟩⟩
  loop k n m j x y xs _ hx hy hxs ct h0 h1 := by
    obtain ⟨a, b, c⟩ := hx (Sp.ptUp ct) h0 (by show ct.2 + (n : Int) ≤ _; omega)
    have b0 : ct.2 ≤ (ctS x (Sp.ptUp ct)).2 := b
    have c0 : (ctS x (Sp.ptUp ct)).2 ≤ ct.2 + n := c
    obtain ⟨a', b', c'⟩ := hy (ctS x (Sp.ptUp ct)) (by omega) (by omega)
    obtain ⟨g1, g2, g3⟩ := siteL hxs (ctS y (ctS x (Sp.ptUp ct))) (by omega) (by omega)
    exact ⟨ctB (Sp.joinB xs) (ctS y (ctS x (Sp.ptUp ct))), by omega, by omega, fun rest => ⟨fun hr => ⟨⟨a, a'⟩, g1, hr⟩, rfl⟩⟩

/-- of a program that was read -/
theorem tree_sites {src : Sp.Bs} {t : Bl} (h : Sp.tree src = .ok t) : NGB t (0, 0) := by
  unfold Sp.tree at h
  cases hp : Sp.parse Tr src with
  | error e => rw [hp] at h; cases h
  | ok fs =>
    rw [hp] at h
    cases h
    exact (siteL (Sp.Pn.parse_n site_made hp).2 (0, 0) (Int.le_refl _) (by decide)).1

end Go.Proofs.YtiopfihjmkfdmaaGreatDoor

/- THE DOCUMENT'S ANSWER: Run. -/
namespace Go.Proofs.YtiopfihjmkfdmaaGreatDoor
open Go.RowKit
open Sp (Sm Bl Ct Tr Rst Out)
set_option maxRecDepth 100000
set_option maxHeartbeats 8000000

theorem run_tree (src : Sp.Bs) (ins : List Int) (fuel : Int) : Sp.run src ins fuel = (match Sp.tree src with
    | .error e => .error e
    | .ok t => if fuel < 0 ∨ 500 < fuel then .error (4, 0) else .ok (Sp.runOf (Sp.foldB Sp.Rn t) ins fuel.toNat)) := by
  unfold Sp.run
  rw [Sp.parse_tree Sp.Rn src]
  cases Sp.tree src <;> rfl

def rst0 (ins : List Int) (f : Nat) : Rst := { vis := [], st := List.replicate 8 0, ins := ins, fuel := f }
/-- how a run ends -/
def endOf : Out → List (Int × List Int) × Int
  | (r, none) => (r.vis, -1)
  | (r, some s) => (r.vis, s)
theorem runOf_doB (t : Bl) (ins : List Int) (f : Nat) : Sp.runOf (Sp.foldB Sp.Rn t) ins f = endOf (Sp.andThen (doB t (0, 0) (rst0 ins f)) (Sp.visit (ctB t (0, 0)).1)) := by
  unfold Sp.runOf endOf doB ctB rst0
  rfl

/-- visits that may be read -/
def FVisits (base : Nat) (w : World) (vis : List (Int × List Int)) (vv : Value) : Prop :=
  ∃ sbs, w.ownsRow base 113 2 vv vis.length (vCells vis sbs) ∧ sbs.length = vis.length ∧ ∀ (i sb : Nat) (x : Int × List Int), sbs[i]? = some sb → vis[i]? = some x → w.heap[sb]? = some (.cells (stC x.2) 3) ∧ base ≤ sb ∧ ∀ n ∈ x.2, In16 n

theorem MAt.seen {base b pb S f0 : Nat} {stop : Int} {r : Rst} {w : World} (h : MAt base b pb S f0 stop r w) : ∃ a n c, w.cell? ⟨b, 4, none⟩ = some (.slice a n c) ∧ FVisits base w r.vis (.slice a n c) ∧ r.vis.length ≤ 500 := by
  obtain ⟨iv, vv, sbs, h1, h2, h3, _⟩ := h.ex
  have c4 := cell_of h1 4 (v := vv) rfl
  have hl : r.vis.length ≤ 500 := by have := h.fuel; have := h.f500; omega
  have hv : ∃ a n c, vv = .slice a n c := by
    rcases h2.2 with ⟨rfl, _⟩ | ⟨g, cap, cur, rfl, _⟩
    · exact ⟨_, _, _, rfl⟩
    · exact ⟨_, _, _, rfl⟩
  obtain ⟨a, n, c, rfl⟩ := hv
  exact ⟨a, n, c, c4, ⟨sbs, h2, h3.1, fun i sb x e1 e2 => ⟨(h3.2 i sb x e1 e2).1, (h3.2 i sb x e1 e2).2.1, h.vis16 x (List.mem_of_getElem? e2)⟩⟩, hl⟩

theorem fdoes_nil (b : Nat) (w : World) : Calls Tryz.prog 44 #[.pointer (some ⟨b, 0, none⟩), .int .i64 (-1)] w fun e w' => e = .returned (.tuple #[]) ∧ w' = w := by
  go_enter Tryz.func44, Tryz.ntmps44
  go_wp2_with fail
  go_loopw [1] (fun a wr => a = .int .i64 (-1) ∧ wr = w) (fun _ _ => 0)
  case atStart => exact ⟨rfl, rfl⟩
  case round =>
    obtain ⟨rfl, rfl⟩ := hrel
    go_wp2_with fail
    go_end0
    exact ⟨rfl, rfl⟩

/-- the machine, made -/
theorem mach_start {w1 : World} {pb f : Nat} {iv : Value} {ins : List Int} (hin : InsAt w1.heap.size w1 iv ins) (h16 : ∀ n ∈ ins, In16 n) (hf : f ≤ 500) :
    MAt w1.heap.size (w1.heap.size + 1) pb w1.heap.size f (-3) (rst0 ins f) ((w1.alloc (.cells #[.int .i64 0, .int .i64 0, .int .i64 0, .int .i64 0, .int .i64 0, .int .i64 0, .int .i64 0, .int .i64 0] 3)).alloc (.cells (mCells pb w1.heap.size iv (.slice none 0 0) f (-3)) 110)) := by
  have hB : Below w1.heap.size w1 ((w1.alloc (.cells #[.int .i64 0, .int .i64 0, .int .i64 0, .int .i64 0, .int .i64 0, .int .i64 0, .int .i64 0, .int .i64 0] 3)).alloc (.cells (mCells pb w1.heap.size iv (.slice none 0 0) f (-3)) 110)) := ((Below.refl _ _).alloc (Nat.le_refl _) _).alloc (by simp) _
  have hb := heap_alloc_new (w1.alloc (.cells #[.int .i64 0, .int .i64 0, .int .i64 0, .int .i64 0, .int .i64 0, .int .i64 0, .int .i64 0, .int .i64 0] 3)) (.cells (mCells pb w1.heap.size iv (.slice none 0 0) f (-3)) 110)
  rw [show (w1.alloc (.cells #[.int .i64 0, .int .i64 0, .int .i64 0, .int .i64 0, .int .i64 0, .int .i64 0, .int .i64 0, .int .i64 0] 3)).heap.size = w1.heap.size + 1 by simp] at hb
  refine ⟨⟨iv, .slice none 0 0, [], hb, World.ownsRow_nil _ _ _ _, ⟨rfl, fun i sb x e => by simp at e⟩, hin.below hB⟩, ?_, by omega, Nat.le_refl _, rfl, by show 0 + f = f; omega, hf, fun n hn => ?_, h16, fun x hx => (by cases hx)⟩
  · rw [Below.heap_alloc _ _ _ (by simp)]
    exact heap_alloc_new _ _
  · have : n = 0 := by
      have hn' : n ∈ List.replicate 8 (0 : Int) := hn
      exact (List.mem_replicate.1 hn').2
    subst this
    unfold In16; omega

theorem FVisits.weaken {base base' : Nat} {w : World} {vis : List (Int × List Int)} {vv : Value} (h : FVisits base w vis vv) (hb : base' ≤ base) : FVisits base' w vis vv := by
  obtain ⟨sbs, h1, h2, h3⟩ := h
  exact ⟨sbs, ownsRow9_weaken h1 hb, h2, fun i sb x e1 e2 => ⟨(h3 i sb x e1 e2).1, Nat.le_trans hb (h3 i sb x e1 e2).2.1, (h3 i sb x e1 e2).2.2⟩⟩

def FRunPost (s : ByteArray) (ins : List Int) (fuel : Int) (w : World) (e : Ending) (w' : World) : Prop := Below w.heap.size w w' ∧ match Sp.run s.data.toList ins fuel with
  | .error er => e = .returned (.tuple #[.slice none 0 0, .int .i64 0, .int .i64 er.1, .int .i64 er.2])
  | .ok vs => ∃ a n c, e = .returned (.tuple #[.slice a n c, .int .i64 vs.2, .int .i64 0, .int .i64 0]) ∧ FVisits w.heap.size w' vs.1 (.slice a n c) ∧ vs.1.length ≤ 500

/-- the end of a run: what is told -/
theorem frun_end {base b pb S f0 : Nat} {stop : Int} {r : Rst} {w w2 : World} (hw : w.heap.size ≤ base) (hB : Below w.heap.size w w2) (hM : MAt base b pb S f0 stop r w2) : ∃ a n c, w2.cell? ⟨b, 4, none⟩ = some (.slice a n c) ∧ w2.cell? ⟨b, 5, none⟩ = some (.int .i64 stop) ∧ Hid (Below w.heap.size w w2.drew ∧ FVisits w.heap.size w2.drew r.vis (.slice a n c) ∧ r.vis.length ≤ 500) := by
  obtain ⟨a, n, c, h1, _, _⟩ := hM.seen
  obtain ⟨_, _, _, m5, _⟩ := hM.cells
  obtain ⟨a', n', c', h1', h2', h3'⟩ := hM.drew.seen
  have e : w2.drew.cell? ⟨b, 4, none⟩ = w2.cell? ⟨b, 4, none⟩ := rfl
  rw [e, h1] at h1'
  cases h1'
  exact ⟨a, n, c, h1, m5, hB.drew, h2'.weaken hw, h3'⟩

theorem does_top {t : Bl} {w w1 : World} {pb : Nat} (hp : FProg w.heap.size pb t w1) (hng : NGB t (0, 0)) {b S f0 : Nat} {r : Rst} {wm : World} (hM : MAt w1.heap.size b pb S f0 (-3) r wm) (hB : Below w1.heap.size w1 wm) : ∃ first P : Int, w1.cell? ⟨pb, 1, none⟩ = some (.int .i64 first) ∧ w1.cell? ⟨pb, 2, none⟩ = some (.int .i64 P) ∧ pb < w1.heap.size ∧ RowKit.wrap64 (P - 1) = (ctB t (0, 0)).1 ∧
    Calls Tryz.prog 44 #[.pointer (some ⟨b, 0, none⟩), .int .i64 first] wm fun e w' => e = .returned (.tuple #[]) ∧ MK w1.heap.size b S wm w' ∧ MOut w1.heap.size b pb S f0 w' (doB t (0, 0) r) := by
  have hlook := hp.look
  obtain ⟨p, first, ct, hb, hn, hq, h1, h2, hbl, hct, h64, hqs⟩ := hp
  have c1 := cell_of hb 1 (v := .int .i64 first) rfl
  have c2 := cell_of hb 2 (v := .int .i64 p.ct.1) rfl
  have ec := hbl.ct
  refine ⟨first, p.ct.1, c1, c2, heap_lt hb, ?_, ?_⟩
  · rw [hct, ← ec]
    obtain ⟨a1, a2⟩ := h64
    show RowKit.wrap64 (RowKit.wrap64 (ct.1 + 1) - 1) = ct.1
    unfold RowKit.wrap64; omega
  · obtain ⟨ns, g, cap, first', ct', c1', hbl', hl⟩ := hlook
    have ef : first' = first := by rw [c1] at c1'; cases c1'; rfl
    subst ef
    rcases hl with hl | rfl
    · exact fdoes_calls ⟨hl.ltp, hl.ltg⟩ hbl' hng r wm hM (hl.below hl.ltp hl.ltg hB)
    · obtain ⟨e, _⟩ := hbl
      subst e
      refine (fdoes_nil b wm).mono ?_
      rintro e w' ⟨rfl, rfl⟩
      exact ⟨rfl, MK.refl _ _ _ _, hM⟩

end Go.Proofs.YtiopfihjmkfdmaaGreatDoor

/- THE DOCUMENT'S ANSWER: Run, walked. -/
namespace Go.Proofs.YtiopfihjmkfdmaaGreatDoor
open Go.RowKit
open Sp (Sm Bl Ct Tr Rst Out)
set_option maxRecDepth 100000
set_option maxHeartbeats 8000000

theorem fRun_calls (s : ByteArray) (hmax : s.size ≤ 1048576) (ia : Option Addr) (i_n ic : Nat) (ins : List Int) (fuel : Int) (w : World) (hin : InsAt w.heap.size w (.slice ia i_n ic) ins) (h16 : ∀ n ∈ ins, In16 n) :
    Calls Tryz.prog 24 #[.string s, .slice ia i_n ic, .int .i64 fuel] w (FRunPost s ins fuel w) := by
  have hrun := run_tree s.data.toList ins fuel
  have hr := fRead_calls s hmax w
  unfold FReadPost at hr
  cases ht : Sp.tree s.data.toList with
  | error er =>
    rw [ht] at hr hrun
    have HR : Hid (Calls Tryz.prog 40 #[.string s] w _) := hr
    have HE : Hid (Sp.run s.data.toList ins fuel = .error er) := hrun
    have hz : ¬ ((er.1 : Int) = 0) := by
      have := Sp.print_e s.data.toList er (by rw [print_tree, ht])
      omega
    have hz2 : ((er.1 : Int) == 0) = false := by simpa using hz
    clear hr hrun ht hin
    go_enter Tryz.func24, Tryz.ntmps24
    go_wp2_with fail
    refine HR.out.mono ?_
    rintro e w1 ⟨hb, rfl⟩
    go_wp2_with fail
    try simp only [Exit.inBlock, Exit.then]
    refine bodyPost_ret (v := .tuple #[.slice none 0 0, .int .i64 0, .int .i64 (er.1 : Int), .int .i64 (er.2 : Int)]) (by simp [results, Tryz.results24, go_sem]) rfl ?_
    unfold FRunPost
    rw [HE.out]
    exact ⟨hb, rfl⟩
  | ok t =>
    rw [ht] at hr hrun
    have HR : Hid (Calls Tryz.prog 40 #[.string s] w _) := hr
    have HNG : Hid (NGB t (0, 0)) := tree_sites ht
    clear hr ht
    by_cases hf : fuel < 0 ∨ 500 < fuel
    · have HE : Hid (Sp.run s.data.toList ins fuel = .error (4, 0)) := by
        unfold Hid; rw [hrun]; simp only; rw [if_pos hf]
      clear hrun hin
      rcases hf with hf | hf
      all_goals
        go_enter Tryz.func24, Tryz.ntmps24
        go_wp2_with fail
        refine HR.out.mono ?_
        rintro e w1 ⟨hb, pb, rfl, hpb, hprog⟩
        clear hprog
        go_wp2_with fail
        try simp only [Exit.inBlock, Exit.then]
        refine bodyPost_ret (v := .tuple #[.slice none 0 0, .int .i64 0, .int .i64 4, .int .i64 0]) (by simp [results, Tryz.results24, go_sem]) rfl ?_
        unfold FRunPost
        rw [HE.out]
        exact ⟨hb, rfl⟩
    · obtain ⟨f, hfn⟩ : ∃ f : Nat, fuel = (f : Int) := ⟨fuel.toNat, by omega⟩
      subst hfn
      have h500 : f ≤ 500 := by omega
      have HE : Hid (Sp.run s.data.toList ins (f : Int) = .ok (endOf (Sp.andThen (doB t (0, 0) (rst0 ins f)) (Sp.visit (ctB t (0, 0)).1)))) := by
        unfold Hid; rw [hrun]; simp only; rw [if_neg hf, ← runOf_doB]; rfl
      have HIN : Hid (InsAt w.heap.size w (.slice ia i_n ic) ins) := hin
      have hf1 : ¬ ((f : Int) < 0) := by omega
      have hf2 : ¬ (500 < (f : Int)) := by omega
      clear hrun hin hf
      go_enter Tryz.func24, Tryz.ntmps24
      go_wp2_with fail
      refine HR.out.mono ?_
      rintro e w1 ⟨hb, pb, rfl, hpb, hprog⟩
      have hinB : InsAt w1.heap.size w1 (.slice ia i_n ic) ins := by
        rcases HIN.out.below hb with h | ⟨g, off, cap, a1, a2, a3, a4⟩
        · exact .inl h
        · exact .inr ⟨g, off, cap, a1, Nat.lt_of_lt_of_le a2 hb.size, a3, a4⟩
      have hM := mach_start (pb := pb) hinB h16 h500
      have hBm : Below w1.heap.size w1 ((w1.alloc (.cells #[.int .i64 0, .int .i64 0, .int .i64 0, .int .i64 0, .int .i64 0, .int .i64 0, .int .i64 0, .int .i64 0] 3)).alloc (.cells (mCells pb w1.heap.size (.slice ia i_n ic) (.slice none 0 0) f (-3)) 110)) := ((Below.refl _ _).alloc (Nat.le_refl _) _).alloc (by simp) _
      obtain ⟨first, P, c1, c2, hltp, hP, HD0⟩ := does_top hprog HNG.out hM hBm
      have HD : Hid (Calls _ _ _ _ _) := HD0
      have hmk := make8 w1
      have HB1 : Hid (Below w.heap.size w w1) := hb
      have HBm : Hid (Below w1.heap.size w1 _) := hBm
      clear hb hprog hinB hM hBm HD0 HIN
      go_wp2_with fail
      refine HD.out.mono ?_
      rintro e w2 ⟨rfl, k2, o2⟩
      have hB2 : Below w1.heap.size w1 w2 := HBm.out.trans k2.below
      have c2' : w2.cell? ⟨pb, 2, none⟩ = some (.int .i64 P) := by rw [hB2.cell (p := ⟨pb, 2, none⟩) hltp]; exact c2
      have HBw2 : Hid (Below w.heap.size w w2) := HB1.out.trans (hB2.mono HB1.out.size)
      have hw1 : Hid (w.heap.size ≤ w1.heap.size) := HB1.out.size
      clear k2 hB2 HBm HD
      rcases hd : doB t (0, 0) (rst0 ins f) with ⟨r2, _ | s2⟩
      · rw [hd] at o2
        have HM2 : Hid (MAt w1.heap.size (w1.heap.size + 1) pb w1.heap.size f (-3) r2 w2) := o2
        have HE2 : Hid (Sp.run s.data.toList ins (f : Int) = .ok (endOf (Sp.visit (ctB t (0, 0)).1 r2))) := by
          have := HE.out
          rw [hd] at this
          exact this
        clear o2 hd HE
        go_wp2_with fail
        simp only [hP]
        refine (fvisit_calls HM2.out _).mono ?_
        rintro e w3 ⟨rfl, k3, o3⟩
        have HB3 : Hid (Below w.heap.size w w3) := HBw2.out.trans (k3.below.mono hw1.out)
        clear k3
        rcases hv : Sp.visit (ctB t (0, 0)).1 r2 with ⟨r3, _ | s3⟩
        · rw [hv] at o3
          have M3 : MAt w1.heap.size (w1.heap.size + 1) pb w1.heap.size f (-3) r3 w3 := o3
          obtain ⟨_, _, _, m5, f5⟩ := M3.cells
          have hlt3 := M3.ltb
          have M4 := M3.stopped (-1)
          obtain ⟨va, vn, vc, v4, v5, HFE⟩ := frun_end hw1.out (HB3.out.trans (M4.2.below.mono hw1.out)) M4.1
          have HEN : Hid (Sp.run s.data.toList ins (f : Int) = .ok (r3.vis, -1)) := by
            have := HE2.out
            rw [hv] at this
            exact this
          have v4' : w3.cell? ⟨w1.heap.size + 1, 4, none⟩ = some (.slice va vn vc) := by
            obtain ⟨a', n', c', q1, _, _⟩ := M3.seen
            have : (w3.setCell ⟨w1.heap.size + 1, 5, none⟩ (.int .i64 (-1))).cell? ⟨w1.heap.size + 1, 4, none⟩ = w3.cell? ⟨w1.heap.size + 1, 4, none⟩ := World.cell?_setCell_other _ _ _ _ (by simp)
            rw [← this]; exact v4
          clear o3 hv M3 M4 v4 v5 HE2
          go_wp2_with fail
          go_region_with (fail)
          all_goals
            go_wp2_with fail
            try simp only [Exit.inBlock, Exit.then]
            refine bodyPost_ret (v := .tuple #[.slice va vn vc, .int .i64 (-1), .int .i64 0, .int .i64 0]) (by simp [results, Tryz.results24, go_sem]) rfl ?_
            unfold FRunPost
            rw [HEN.out]
            exact ⟨HFE.out.1, va, vn, vc, rfl, HFE.out.2.1, HFE.out.2.2⟩
        · rw [hv] at o3
          obtain ⟨_, _, _, m5, f5⟩ := o3.2.cells
          obtain ⟨va, vn, vc, v4, v5, HFE⟩ := frun_end hw1.out HB3.out o3.2
          have HEN : Hid (Sp.run s.data.toList ins (f : Int) = .ok (r3.vis, s3)) := by
            have := HE2.out
            rw [hv] at this
            exact this
          clear o3 hv HE2
          go_wp2_with fail
          go_region_with (fail)
          all_goals
            go_wp2_with fail
            try simp only [Exit.inBlock, Exit.then]
            refine bodyPost_ret (v := .tuple #[.slice va vn vc, .int .i64 s3, .int .i64 0, .int .i64 0]) (by simp [results, Tryz.results24, go_sem]) rfl ?_
            unfold FRunPost
            rw [HEN.out]
            exact ⟨HFE.out.1, va, vn, vc, rfl, HFE.out.2.1, HFE.out.2.2⟩
      · rw [hd] at o2
        have HI : Hid (∀ p : Int, Calls _ _ _ _ _) := fun p => fvisit_idle o2.2 o2.1 p
        obtain ⟨_, _, _, m5, f5⟩ := o2.2.cells
        obtain ⟨va, vn, vc, v4, v5, HFE⟩ := frun_end hw1.out HBw2.out o2.2
        have HEN : Hid (Sp.run s.data.toList ins (f : Int) = .ok (r2.vis, s2)) := by
          have := HE.out
          rw [hd] at this
          exact this
        clear o2 hd HE
        go_wp2_with fail
        refine (HI.out _).mono ?_
        rintro e w3 ⟨rfl, rfl⟩
        go_wp2_with fail
        go_region_with (fail)
        all_goals
          go_wp2_with fail
          try simp only [Exit.inBlock, Exit.then]
          refine bodyPost_ret (v := .tuple #[.slice va vn vc, .int .i64 s2, .int .i64 0, .int .i64 0]) (by simp [results, Tryz.results24, go_sem]) rfl ?_
          unfold FRunPost
          rw [HEN.out]
          exact ⟨HFE.out.1, va, vn, vc, rfl, HFE.out.2.1, HFE.out.2.2⟩

end Go.Proofs.YtiopfihjmkfdmaaGreatDoor
