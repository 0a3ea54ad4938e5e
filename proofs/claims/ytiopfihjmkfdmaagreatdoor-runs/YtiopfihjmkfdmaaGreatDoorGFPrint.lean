/- THE DOCUMENT'S ANSWER: Print. -/
import Derived.Test.YtiopfihjmkfdmaaGreatDoorGFAll
import Derived.Test.YtiopfihjmkfdmaaGreatDoorGFLines
import Derived.Test.YtiopfihjmkfdmaaGreatDoorGTell
namespace Go.Proofs.YtiopfihjmkfdmaaGreatDoor
open Go.RowKit
open Sp (Sm Bl Ct Tr)
set_option maxRecDepth 100000
set_option maxHeartbeats 4000000

theorem print_tree (src : Sp.Bs) : Sp.print src = (match Sp.tree src with
    | .ok b => .ok (txtB 0 b)
    | .error e => .error e) := by
  unfold Sp.print
  rw [Sp.parse_tree Sp.Pr src]
  cases Sp.tree src <;> rfl

theorem tree_short {src : Sp.Bs} {b : Bl} (h : Sp.tree src = .ok b) : (txtB 0 b).length ≤ 2000000 := by
  have := Sp.parse_tree Sp.Pr src
  rw [h] at this
  exact Sp.parse_short this

theorem FBl.nil_of {ns : List FNode} {lo hi : Nat} (h0 : hi = 0) : ∀ {t : Bl} {k : Int} {ct ct' : Ct}, FBl ns lo hi t k ct ct' → t = .nil
  | .nil, _, _, _, _ => rfl
  | .assign _ _ _, _, _, _, ⟨_, _, _, _, _, _, h, _⟩ => by omega
  | .read _ _, _, _, _, ⟨_, _, _, _, h, _⟩ => by omega
  | .assert _ _ _ _, _, _, _, ⟨_, _, _, _, _, _, h, _⟩ => by omega
  | .ite _ _ _ _ _ _ _, _, _, _, ⟨_, _, _, _, _, _, _, _, h, _⟩ => by omega
  | .loop _ _ _ _ _, _, _, _, ⟨_, _, _, _, _, _, _, h, _⟩ => by omega

/-- the nodes of a program that was read -/
theorem FProg.look {base pb : Nat} {t : Bl} {w : World} (h : FProg base pb t w) : ∃ (ns : List FNode) (g cap : Nat) (first : Int) (ct : Ct), w.cell? ⟨pb, 1, none⟩ = some (.int .i64 first) ∧ FBl ns 0 ns.length t first (0, 0) ct ∧ (FLook pb g cap ns w ∨ t = .nil) := by
  obtain ⟨p, first, ct, hb, hn, hq, h1, h2, hbl, hct, h64, hqs⟩ := h
  have c1 := cell_of hb 1 (v := .int .i64 first) rfl
  rcases hn.2 with ⟨_, h0⟩ | ⟨g, cap, cur, hv, hg, hh, h3, h4, h5, h6⟩
  · exact ⟨p.ns, 0, 0, first, ct, c1, hbl, .inr (FBl.nil_of h0 hbl)⟩
  · refine ⟨p.ns, g, cap, first, ct, c1, hbl, .inl ⟨by rw [← hv]; exact cell_of hb 0 rfl, fun j d c u hd hc hu => ?_, heap_lt hb, heap_lt hh, h3, h4, h1⟩⟩
    rw [hv] at hn
    exact (ownsRow_cell hn (by rw [Nat.mul_comm j 10, fCells_get _ _ _ hc, hd]; exact hu)).1

theorem flines_nil (pb : Nat) (pad : ByteArray) (w : World) : Calls Tryz.prog 41 #[.pointer (some ⟨pb, 0, none⟩), .int .i64 (-1), .string pad] w fun e w' => e = .returned (.string ⟨#[]⟩) ∧ w' = w := by
  go_enter Tryz.func41, Tryz.ntmps41
  go_wp2_with fail
  go_loopw [1, 7] (fun a c wr => a = .int .i64 (-1) ∧ c = .string ⟨#[]⟩ ∧ wr = w) (fun _ _ _ => 0)
  case atStart => exact ⟨rfl, rfl, rfl⟩
  case round =>
    obtain ⟨rfl, rfl, rfl⟩ := hrel
    go_wp2_with fail
    go_ret
    exact ⟨rfl, rfl⟩

/-- a program that was read, as text -/
theorem flines_top {base pb : Nat} {t : Bl} {w : World} (h : FProg base pb t w) (hB : (txtB 0 t).length ≤ 2000000) : ∃ first : Int, w.cell? ⟨pb, 1, none⟩ = some (.int .i64 first) ∧
    Calls Tryz.prog 41 #[.pointer (some ⟨pb, 0, none⟩), .int .i64 first, .string ⟨#[]⟩] w fun e w' => ∃ u : ByteArray, e = .returned (.string u) ∧ u.data.toList = txtB 0 t ∧ Below w.heap.size w w' := by
  obtain ⟨ns, g, cap, first, ct, c1, hbl, hl⟩ := h.look
  refine ⟨first, c1, ?_⟩
  rcases hl with hl | rfl
  · exact flines_calls hbl 0 ⟨#[]⟩ w rfl hB (by decide) hl
  · obtain ⟨rfl, _⟩ := hbl
    refine (flines_nil pb _ w).mono ?_
    rintro e w' ⟨rfl, rfl⟩
    exact ⟨_, rfl, rfl, Below.refl _ _⟩

def FPrintPost (s : ByteArray) (w : World) (e : Ending) (w' : World) : Prop := Below w.heap.size w w' ∧ match Sp.print s.data.toList with
  | .ok t => e = .returned (.tuple #[.string ⟨t.toArray⟩, .int .i64 0, .int .i64 0])
  | .error er => e = .returned (.tuple #[.string ⟨#[]⟩, .int .i64 er.1, .int .i64 er.2])

theorem fPrint_calls (s : ByteArray) (hmax : s.size ≤ 1048576) (w : World) : Calls Tryz.prog 17 #[.string s] w (FPrintPost s w) := by
  have hp := print_tree s.data.toList
  have hr := fRead_calls s hmax w
  unfold FReadPost at hr
  unfold FPrintPost
  rw [hp]
  cases ht : Sp.tree s.data.toList with
  | error er =>
    rw [ht] at hr
    have HR : Hid (Calls Tryz.prog 40 #[.string s] w _) := hr
    have hz : ¬ ((er.1 : Int) = 0) := by
      have := Sp.print_e s.data.toList er (by rw [hp, ht])
      omega
    have hz2 : ((er.1 : Int) == 0) = false := by simpa using hz
    clear hr hp ht
    go_enter Tryz.func17, Tryz.ntmps17
    go_wp2_with fail
    refine HR.out.mono ?_
    rintro e w1 ⟨hb, rfl⟩
    go_wp2_with fail
    try simp only [Exit.inBlock, Exit.then]
    refine bodyPost_ret (v := .tuple #[.string ⟨#[]⟩, .int .i64 (er.1 : Int), .int .i64 (er.2 : Int)]) (by simp [results, Tryz.results17, go_sem]) rfl ?_
    exact ⟨hb, rfl⟩
  | ok t =>
    rw [ht] at hr
    have HS : Hid ((txtB 0 t).length ≤ 2000000) := tree_short ht
    have HR : Hid (Calls Tryz.prog 40 #[.string s] w _) := hr
    clear hr hp ht
    go_enter Tryz.func17, Tryz.ntmps17
    go_wp2_with fail
    refine HR.out.mono ?_
    rintro e w1 ⟨hb, pb, rfl, hpb, hprog⟩
    obtain ⟨first, c1, hcall⟩ := flines_top hprog HS.out
    have HC : Hid (Calls Tryz.prog 41 #[.pointer (some ⟨pb, 0, none⟩), .int .i64 first, .string ⟨#[]⟩] w1 _) := hcall
    have HB : Hid (Below w.heap.size w w1) := hb
    clear hcall hprog hb
    go_wp2_with fail
    refine HC.out.mono ?_
    rintro e w2 ⟨u, rfl, hu, hb2⟩
    go_wp2_with fail
    try simp only [Exit.inBlock, Exit.then]
    refine bodyPost_ret (v := .tuple #[.string u, .int .i64 0, .int .i64 0]) (by simp [results, Tryz.results17, go_sem]) rfl ?_
    refine ⟨HB.out.trans (hb2.mono HB.out.size), ?_⟩
    rw [show (⟨(txtB 0 t).toArray⟩ : ByteArray) = u by rw [← hu]]

end Go.Proofs.YtiopfihjmkfdmaaGreatDoor


