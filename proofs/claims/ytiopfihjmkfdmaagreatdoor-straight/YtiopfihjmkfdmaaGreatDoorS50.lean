import Derived.Test.YtiopfihjmkfdmaaGreatDoorS49
import Derived.Test.YtiopfihjmkfdmaaGreatDoorRows
import Derived.Test.YtiopfihjmkfdmaaGreatDoorS17
import Derived.ProofKit
import Derived.LaidMore
import Derived.LaidLaws
import Derived.LaidHandle
import Derived.OpenShut
import Derived.Stop.Joined
import Derived.Test.YtiopfihjmkfdmaaGreatDoorS22
import Derived.Test.YtiopfihjmkfdmaaGreatDoorS1
import Derived.Test.YtiopfihjmkfdmaaGreatDoorTie
import Derived.Test.YtiopfihjmkfdmaaGreatDoorCards
import Derived.ShutString
import Derived.SevenTiedAt
import Derived.Carry
namespace Go.Proofs.YtiopfihjmkfdmaaGreatDoor
open Go.RowKit
set_option maxRecDepth 100000
set_option maxHeartbeats 8000000
structure StAt (w : World) (d n u : Nat) (th : Bool) (k12 k13 : Nat) (a : Option Addr) (q c : Nat) (a' : Option Addr) (m c' : Nat) (F : FdI) (W : World) : Prop where
 l : Laid2 W
 t : Turns W
 g : W.heap[k12]? = some (.cells #[.int .i64 0, .int .i64 (d : Nat), .int .i64 (n : Nat), .int .i64 (u : Nat), .bool th] 58)
 r : W.heap[k13]? = some (.cells #[.slice a q c, .slice a' m c'] 64)
 f : RepV W a q a' m F
 b : Below w.heap.size w W
theorem StAt.call {w : World} {d n u : Nat} {th : Bool} {k12 k13 : Nat} {a : Option Addr} {q c : Nat} {a' : Option Addr} {m c' : Nat} {F : FdI} {W W' : World} (h : StAt w d n u th k12 k13 a q c a' m c' F W) (k : Below W.heap.size W W') : StAt w d n u th k12 k13 a q c a' m c' F W' :=
 ⟨h.l.after k, h.t.after h.l k, (k.block _ (heap_lt h.g)).trans h.g, (k.block _ (heap_lt h.r)).trans h.r, h.f.below k, h.b.trans (k.mono h.b.size)⟩
theorem Straight_calls (s : ByteArray) (delay narrow unroll : Int) (th : Bool) (w : World) (hL : Laid2 w) (hT : Turns w) :
  Calls Tryz.prog 11 #[.string s, .int .i64 delay, .int .i64 narrow, .int .i64 unroll, .bool th] w fun e w' => e = .returned (.bool true) ∧ Below w.heap.size w w' := by
 have hr := knows_calls w hL hT
 by_cases hs : 1048576 < s.size
 ·go_enter Tryz.func11, Tryz.ntmps11
  go_wp2_with fail
  refine hr.mono ?_
  rintro e w1 ⟨rfl, b1⟩
  go_wp2_with fail
  go_ret
  exact ⟨rfl, b1⟩
 have hs' : s.size ≤ 1048576 := by omega
 have hs2 : ¬ (1048576 : Int) < (s.size : Int) := by omega
 obtain ⟨d, n, u, hd, hn, hu, hcf⟩ := config_calls delay narrow unroll th
 have HCF : Hid (∀ w, Calls _ _ _ w _) := hcf
 clear hcf
 go_enter Tryz.func11, Tryz.ntmps11
 go_wp2_with fail
 refine hr.mono ?_
 rintro e w1 ⟨rfl, b1⟩
 clear hr
 go_wp2_with fail
 refine (HCF.out w1).mono ?_
 rintro e w2 ⟨rfl, b2⟩
 have b3 : Below w.heap.size w (w2.alloc (.cells #[.int .i64 0, .int .i64 (d : Nat), .int .i64 (n : Nat), .int .i64 (u : Nat), .bool th] 58)) := (b1.trans (b2.mono b1.size)).alloc (b1.trans (b2.mono b1.size)).size _
 have hg3 := heap_alloc_new w2 (.cells #[.int .i64 0, .int .i64 (d : Nat), .int .i64 (n : Nat), .int .i64 (u : Nat), .bool th] 58)
 have hL3 := hL.after b3
 have hT3 := hT.after hL b3
 have hA := Analyze_out s d n u th _ hs' hL3 hT3 hd hn hu
 have HA : Hid (Calls _ _ _ _ _) := hA
 have HG3 : Hid (_ = _) := hg3
 have HL3 : Hid (Laid2 _) := hL3
 have HT3 : Hid (Turns _) := hT3
 have HB3 : Hid (Below w.heap.size w _) := b3
 clear b1 b2 b3 hg3 hL3 hT3 hA HCF
 go_wp2_with fail
 generalize w2.alloc (.cells #[.int .i64 0, .int .i64 (d : Nat), .int .i64 (n : Nat), .int .i64 (u : Nat), .bool th] 58) = w3 at *
 generalize w2.heap.size = k12 at *
 refine HA.out.mono ?_
 obtain ⟨F, k, hFk⟩ : ∃ F k, ansF th ⟨d, n, u⟩ s.data.toList = (F, k) := ⟨_, _, rfl⟩
 have hsm := ansF_small th ⟨d, n, u⟩ s.data.toList
 rw [hFk] at hsm ⊢
 rintro e w4 ⟨a, q, c, a', m, c', ev, rfl, hf, hev, b4⟩
 have HFK : Hid (ansF th ⟨d, n, u⟩ s.data.toList = (F, k)) := hFk
 have hq1 : q ≤ 1000 := by rw [hf.n]; exact hsm.1
 have hm1 : m ≤ 1000 := by rw [hf.m]; exact hsm.2
 have kx := below_alloc1 w4 (.cells #[.slice a q c, .slice a' m c'] 64)
 have b5 : Below w3.heap.size w3 (w4.alloc (.cells #[.slice a q c, .slice a' m c'] 64)) := b4.alloc b4.size _
 have hS : StAt w d n u th k12 w4.heap.size a q c a' m c' F (w4.alloc (.cells #[.slice a q c, .slice a' m c'] 64)) :=
  ⟨HL3.out.after b5, HT3.out.after HL3.out b5, (b5.block _ (heap_lt HG3.out)).trans HG3.out, heap_alloc_new _ _, hf.below kx, HB3.out.trans (b5.mono HB3.out.size)⟩
 obtain ⟨at1, hTl⟩ := tell_any (hev.laid (.cells #[.slice a q c, .slice a' m c'] 64)) hS.l
 have HTL : Hid (Calls _ _ _ _ _) := hTl
 have HS : Hid (StAt w d n u th k12 w4.heap.size a q c a' m c' F _) := hS
 clear HA hFk hsm hf hev b4 kx b5 hS hTl HL3 HT3 HG3 HB3
 go_wp2_with fail
 generalize w4.alloc (.cells #[.slice a q c, .slice a' m c'] 64) = w5 at *
 generalize w4.heap.size = k13 at *
 refine HTL.out.mono ?_
 rintro e w6 ⟨rfl, b6⟩
 have HS6 : Hid (StAt w d n u th k12 k13 a q c a' m c' F w6) := HS.out.call b6
 have HWD := word_calls s ⟨#[119, 104, 105, 108, 101]⟩ hs' (by decide) (by decide) w6
 clear HTL HS b6
 go_wp2_with fail
 refine HWD.mono ?_
 rintro e w7 ⟨⟨r, rfl, hr⟩, rfl⟩
 have HR : Hid (r = false → ¬ Sp.HasW Sp.wWhile s.data.toList) := hr
 clear HWD hr
 go_upto_if 60 with fail
 go_cut [17] from 46 to 83 (fun _ wc => Hid (StAt w d n u th k12 k13 a q c a' m c' F wc))
 case first =>
  cases r with
  | true =>
   go_wp2_with fail
   go_meet
   case rel => exact HS6
  | false =>
   have hA := Analyze_out s 0 0 0 false w7 hs' HS6.out.l HS6.out.t (by omega) (by omega) (by omega)
   have e := ans_straight false th ⟨0, 0, 0⟩ ⟨d, n, u⟩ s.data.toList (HR.out (by trivial))
   rw [e, HFK.out] at hA
   have HA : Hid (Calls _ _ _ _ _) := hA
   clear hA e
   go_wp2_with fail
   refine HA.out.mono ?_
   rintro e w8 ⟨a2, q2, c2, a2', m2, c2', ev2, rfl, hf, hev, b8⟩
   obtain rfl : q2 = q := hf.n.trans HS6.out.f.n.symm
   obtain rfl : m2 = m := hf.m.trans HS6.out.f.m.symm
   have kx := below_alloc1 w8 (.cells #[.slice a2 q2 c2, .slice a2' m2 c2'] 64)
   have b9 : Below w7.heap.size w7 (w8.alloc (.cells #[.slice a2 q2 c2, .slice a2' m2 c2'] 64)) := b8.alloc b8.size _
   have hS9 := HS6.out.call b9
   obtain ⟨at2, hTl⟩ := tell_any (hev.laid (.cells #[.slice a2 q2 c2, .slice a2' m2 c2'] 64)) hS9.l
   have HTL : Hid (Calls _ _ _ _ _) := hTl
   have HS9 : Hid (StAt w d n u th k12 k13 a q2 c a' m2 c' F _) := hS9
   have HF9 : Hid (RepV _ a2 q2 a2' m2 F) := hf.below kx
   have HN9 : Hid (_ = _) := heap_alloc_new w8 (.cells #[.slice a2 q2 c2, .slice a2' m2 c2'] 64)
   clear HA hf hev b8 kx b9 hS9 hTl
   go_wp2_with fail
   generalize w8.alloc (.cells #[.slice a2 q2 c2, .slice a2' m2 c2'] 64) = w9 at *
   generalize w8.heap.size = k18 at *
   refine HTL.out.mono ?_
   rintro e w10 ⟨rfl, b10⟩
   have hS10 := HS9.out.call b10
   have hn10 := (b10.block _ (heap_lt HN9.out)).trans HN9.out
   have HS10 : Hid (StAt w d n u th k12 k13 a q2 c a' m2 c' F w10) := hS10
   have HSR := sameReports_calls a q2 c a' m2 c' a2 c2 a2' c2' F w10 hS10.f (HF9.out.below b10) (by omega) (by omega)
   have x0 := cell_of hS10.r 0 (v := .slice a q2 c) rfl
   have x1 := cell_of hS10.r 1 (v := .slice a' m2 c') rfl
   have y0 := cell_of hn10 0 (v := .slice a2 q2 c2) rfl
   have y1 := cell_of hn10 1 (v := .slice a2' m2 c2') rfl
   clear HTL HS9 HF9 HN9 b10 hS10 hn10
   go_wp2_with fail
   refine HSR.mono ?_
   rintro e w11 ⟨rfl, b11⟩
   have HS11 : Hid (StAt w d n u th k12 k13 a q2 c a' m2 c' F w11) := HS10.out.call b11
   clear HSR b11 x0 x1 y0 y1
   go_wp2_with (go_at_call 18; refine (num_calls _ _).mono ?_; rintro e w4 ⟨rfl, rfl⟩)
   go_meet
   case rel => exact HS11
 case rest =>
  have HSc : Hid (StAt w d n u th k12 k13 a q c a' m c' F wc) := hcut
  have hP := Print_calls s wc hs' HSc.out.l.laid
  clear HS6 HR hcut
  cases hp : Sp.print s.data.toList with
  | error er =>
   rw [hp] at hP
   have he : Hid (¬ (er.1 : Int) = 0) := by unfold Hid; have := Sp.print_e _ er hp; omega
   go_wp2_with fail
   refine hP.mono ?_
   rintro e w8 ⟨v, rfl, hv, b8⟩
   have hS8 := HSc.out.call b8
   have ht := Tell_err v er _ w8 hS8.l.et hS8.l.laid.size hv
   obtain ⟨tv, uv, rfl⟩ := err_iface hv
   have HB8 : Hid (Below w.heap.size w w8) := hS8.b
   clear hP hv hS8 b8
   go_wp2_with fail
   refine ht.mono ?_
   rintro e w9 ⟨rfl, b9⟩
   clear ht
   have he' := he.out
   go_wp2_with (go_at_call 18; refine (num_calls _ _).mono ?_; rintro e w4 ⟨rfl, rfl⟩)
   go_ret
   exact ⟨rfl, HB8.out.trans (b9.mono HB8.out.size)⟩
  | ok t =>
   rw [hp] at hP
   obtain ⟨T, hTT⟩ : ∃ T : ByteArray, Hid (T = ⟨t.toArray⟩) := ⟨_, rfl⟩
   have hTs : T.size = t.length := by rw [hTT.out]; exact size_of _
   go_wp2_with fail
   refine hP.mono ?_
   rintro e w8 ⟨rfl, b8⟩
   have HS8 : Hid (StAt w d n u th k12 k13 a q c a' m c' F w8) := HSc.out.call b8
   rw [← hTT.out]
   clear hP b8 HSc
   go_wp2_with fail
   refine (Tell_nil w8).mono ?_
   rintro e w9 ⟨rfl, b9⟩
   have HS9 : Hid (StAt w d n u th k12 k13 a q c a' m c' F w9) := HS8.out.call b9
   clear b9 HS8
   by_cases h4 : 400 < T.size
   ·go_wp2_with (go_at_call 18; refine (num_calls _ _).mono ?_; rintro e w4 ⟨rfl, rfl⟩)
    go_ret
    exact ⟨rfl, HS9.out.b⟩
   ·have h4' : ¬ (400 : Int) < (T.size : Int) := by omega
    obtain ⟨e1, e2⟩ := ans_printed th ⟨d, n, u⟩ s.data.toList t hp (by omega)
    rw [HFK.out] at e1 e2
    have hk0 : k = 0 := e2
    subst hk0
    have hA := Analyze_out T d n u th w9 (by omega) HS9.out.l HS9.out.t hd hn hu
    rw [show T.data.toList = t by rw [hTT.out], e1] at hA
    have HA : Hid (Calls _ _ _ _ _) := hA
    have g0 := cell_of HS9.out.g 0 (v := .int .i64 0) rfl
    have g1 := cell_of HS9.out.g 1 (v := .int .i64 (d : Nat)) rfl
    have g2 := cell_of HS9.out.g 2 (v := .int .i64 (n : Nat)) rfl
    have g3 := cell_of HS9.out.g 3 (v := .int .i64 (u : Nat)) rfl
    have g4 := cell_of HS9.out.g 4 (v := .bool th) rfl
    clear hA e1 e2
    go_wp2_with (go_at_call 18; refine (num_calls _ _).mono ?_; rintro e wN ⟨rfl, rfl⟩)
    refine HA.out.mono ?_
    rintro e w10 ⟨a2, q2, c2, a2', m2, c2', ev2, rfl, hf, hev, b8⟩
    obtain rfl : q2 = q := hf.n.trans HS9.out.f.n.symm
    obtain rfl : m2 = m := hf.m.trans HS9.out.f.m.symm
    have kx := below_alloc1 w10 (.cells #[.slice a2 q2 c2, .slice a2' m2 c2'] 64)
    have b9 : Below wN.heap.size wN (w10.alloc (.cells #[.slice a2 q2 c2, .slice a2' m2 c2'] 64)) := b8.alloc b8.size _
    have hS11 := HS9.out.call b9
    obtain ⟨at2, hTl⟩ := tell_any (hev.laid (.cells #[.slice a2 q2 c2, .slice a2' m2 c2'] 64)) hS11.l
    have HTL : Hid (Calls _ _ _ _ _) := hTl
    have HS11 : Hid (StAt w d n u th k12 k13 a q2 c a' m2 c' F _) := hS11
    have HF11 : Hid (RepV _ a2 q2 a2' m2 F) := hf.below kx
    have HN11 : Hid (_ = _) := heap_alloc_new w10 (.cells #[.slice a2 q2 c2, .slice a2' m2 c2'] 64)
    clear HA hf hev b8 kx b9 hS11 hTl g0 g1 g2 g3 g4
    go_wp2_with fail
    generalize w10.alloc (.cells #[.slice a2 q2 c2, .slice a2' m2 c2'] 64) = w11 at *
    generalize w10.heap.size = k18 at *
    refine HTL.out.mono ?_
    rintro e w12 ⟨rfl, b12⟩
    have hS12 := HS11.out.call b12
    have hn12 := (b12.block _ (heap_lt HN11.out)).trans HN11.out
    have HS12 : Hid (StAt w d n u th k12 k13 a q2 c a' m2 c' F w12) := hS12
    have HSR := sameReports_calls a q2 c a' m2 c' a2 c2 a2' c2' F w12 hS12.f (HF11.out.below b12) (by omega) (by omega)
    have x0 := cell_of hS12.r 0 (v := .slice a q2 c) rfl
    have x1 := cell_of hS12.r 1 (v := .slice a' m2 c') rfl
    have y0 := cell_of hn12 0 (v := .slice a2 q2 c2) rfl
    have y1 := cell_of hn12 1 (v := .slice a2' m2 c2') rfl
    clear HTL HS11 HF11 HN11 b12 hS12 hn12
    go_wp2_with fail
    refine HSR.mono ?_
    rintro e w13 ⟨rfl, b13⟩
    have HS13 : Hid (StAt w d n u th k12 k13 a q2 c a' m2 c' F w13) := HS12.out.call b13
    clear HSR b13 x0 x1 y0 y1
    go_wp2_with (go_at_call 18; refine (num_calls _ _).mono ?_; rintro e wM ⟨rfl, rfl⟩)
    go_ret
    exact ⟨rfl, HS13.out.b⟩
end Go.Proofs.YtiopfihjmkfdmaaGreatDoor
namespace Go.Proofs.YtiopfihjmkfdmaaGreatDoor
open Go.ChangeShapes Go.WideShapes Go.ChangeAt Go.RowKit
set_option maxRecDepth 100000
theorem own : ownKnob Tryz.prog.godebug = none := by kernel_rfl
theorem gET : Tryz.prog.globalNamed "errors.errorType" = some 0 := by kernel_rfl
theorem gOps : Tryz.prog.globalNamed "invariants/tree.opSigns" = some 1 := by kernel_rfl
theorem gRels : Tryz.prog.globalNamed "invariants/tree.relationSigns" = some 2 := by kernel_rfl
theorem gPow : Tryz.prog.globalNamed "internal/strconv.uint64pow10" = some 6 := by kernel_rfl
theorem gErrR : Tryz.prog.globalNamed "strconv.ErrRange" = some 10 := by kernel_rfl
theorem gErrS : Tryz.prog.globalNamed "strconv.ErrSyntax" = some 9 := by kernel_rfl
theorem tOps : (Tryz.prog.globals[1]?).map (·.type) = some 272 := by kernel_rfl
theorem tRels : (Tryz.prog.globals[2]?).map (·.type) = some 273 := by kernel_rfl
theorem tPow : (Tryz.prog.globals[6]?).map (·.type) = some 423 := by kernel_rfl
theorem tErrR : (Tryz.prog.globals[10]?).map (·.type) = some 23 := by kernel_rfl
theorem tErrS : (Tryz.prog.globals[9]?).map (·.type) = some 23 := by kernel_rfl
theorem rtOf : (Tryz.prog.cutTypes.find? (·.1 == "internal/reflectlite.rtype")).map (·.2) = some 238 := by kernel_rfl
theorem oneRow : ((List.range 487).filter fun t => Tryz.prog.rowNamed t [101, 114, 114, 111, 114]) = [23] := by kernel_rfl
theorem tSize : Tryz.prog.types.size = 487 := by kernel_rfl
theorem strs_of_trod {H : Type} {enc : TypeId × Value → H} {P : Program} {w : World} {base : Nat} {sp : Nat → Bool} {held : Bool} {fuel : Nat} {t e : TypeId} {n : Nat} {cs : List Value} {ss : List (List UInt8)} {p : List MemPlace}
  (ht : P.underlying t = some (.array n e)) (he : P.underlying e = some .string) (hce : P.cellsOf e = 1)
  (h : DataW.trod enc P w base sp held fuel t cs = some (.agg (ss.map fun s => .lit (.string s)), p)) (k : Nat) (s : List UInt8) (hk : ss[k]? = some s) : cs[k]? = some (.string ⟨s.toArray⟩) := by
 obtain ⟨xs, m, rfl, hx, _, hxl, hel⟩ := DataW.trod_array ht h
 simp only [Prod.mk.injEq, DataW.agg.injEq] at hx
 have hlen := congrArg List.length hx.1
 simp at hlen
 have hkl : k < ss.length := by
  rcases Nat.lt_or_ge k ss.length with q | q
  ·exact q
  ·rw [List.getElem?_eq_none q] at hk; cases hk
 have hxk : k < xs.length := by omega
 have h1 := hel k (by omega)
 rw [List.getElem?_eq_getElem hxk, hce] at h1
 obtain ⟨s', hc, hv, _⟩ := DataW.trod_string he h1
 have h2 : (xs.map (·.1))[k]? = some (DataW.lit (.string s'.data.toList)) := by
  simp [List.getElem?_eq_getElem hxk, hv]
 rw [← hx.1] at h2
 simp [hk] at h2
 have h3 : cs[k]? = some (.string s') := by
  have := congrArg (·[0]?) hc
  simpa [List.getElem?_take, List.getElem?_drop] using this
 rw [h3, h2]
end Go.Proofs.YtiopfihjmkfdmaaGreatDoor
namespace Go.Proofs.YtiopfihjmkfdmaaGreatDoor
open Go.ChangeShapes Go.WideShapes Go.ChangeAt Go.RowKit
set_option maxRecDepth 100000
theorem gOpp : Tryz.prog.globalNamed "invariants/tree.opposites" = some 4 := by kernel_rfl
theorem gMir : Tryz.prog.globalNamed "invariants/tree.mirrors" = some 3 := by kernel_rfl
theorem tOpp : (Tryz.prog.globals[4]?).map (·.type) = some 403 := by kernel_rfl
theorem tMir : (Tryz.prog.globals[3]?).map (·.type) = some 403 := by kernel_rfl
theorem laid3_of {W : World} (h : laidMetH Tryz.prog Rows.straightRow.laid W) : Laid2 W ∧ Turns W := by
 have h' : laidMet Tryz.prog [("invariants/tree.opSigns", Rows.laid_invariants_tree_opSigns), ("invariants/tree.relationSigns", Rows.laid_invariants_tree_relationSigns), ("invariants/tree.opposites", Rows.laid_invariants_tree_opposites), ("invariants/tree.mirrors", Rows.laid_invariants_tree_mirrors), ("math/bits.deBruijn32tab", Rows.laid_math_bits_deBruijn32tab), ("math/bits.deBruijn64tab", Rows.laid_math_bits_deBruijn64tab), ("internal/strconv.uint64pow10", Rows.laid_internal_strconv_uint64pow10), ("strconv.ErrRange", Rows.laid_strconv_ErrRange), ("strconv.ErrSyntax", Rows.laid_strconv_ErrSyntax)] W ∧ handlesMet Tryz.prog [("errors.errorType", Rows.laid_errors_errorType)] W := h
 obtain ⟨⟨ps, ⟨g0, t0, c0, f0, p0, q0, hg0, ht0, hv0, hd0, ⟨g1, t1, c1, f1, p1, q1, hg1, ht1, hv1, hd1, ⟨g2, t2, c2, f2, p2, q2, hg2, ht2, hv2, hd2, ⟨g3, t3, c3, f3, p3, q3, hg3, ht3, hv3, hd3, ⟨g4, t4, c4, f4, p4, q4, hg4, ht4, hv4, hd4, ⟨g5, t5, c5, f5, p5, q5, hg5, ht5, hv5, hd5, ⟨g6, t6, c6, f6, p6, q6, hg6, ht6, hv6, hd6, ⟨g7, t7, c7, f7, p7, q7, hg7, ht7, hv7, hd7, ⟨g8, t8, c8, f8, p8, q8, hg8, ht8, hv8, hd8, _, _⟩, _⟩, _⟩, _⟩, _⟩, _⟩, _⟩, _⟩, _⟩, _, _⟩, hh⟩ := h'
 obtain rfl := Option.some.inj (gOps.symm.trans hg0)
 obtain rfl := Option.some.inj (tOps.symm.trans ht0)
 obtain rfl := Option.some.inj (gRels.symm.trans hg1)
 obtain rfl := Option.some.inj (tRels.symm.trans ht1)
 obtain rfl := Option.some.inj (gOpp.symm.trans hg2)
 obtain rfl := Option.some.inj (tOpp.symm.trans ht2)
 obtain rfl := Option.some.inj (gMir.symm.trans hg3)
 obtain rfl := Option.some.inj (tMir.symm.trans ht3)
 obtain rfl := Option.some.inj (gPow.symm.trans hg6)
 obtain rfl := Option.some.inj (tPow.symm.trans ht6)
 obtain rfl := Option.some.inj (gErrR.symm.trans hg7)
 obtain rfl := Option.some.inj (tErrR.symm.trans ht7)
 obtain rfl := Option.some.inj (gErrS.symm.trans hg8)
 obtain rfl := Option.some.inj (tErrS.symm.trans ht8)
 have kR : ∃ tp p, W.cell? ⟨10, 0, none⟩ = some (.iface tp p) := by
  obtain ⟨_, u, v, hc, _, _⟩ := iface_of_trod Tryz.underlying23 hd7
  exact ⟨u, v, by rw [World.var?_cell hg7 hv7 0, Array.eq_one_of_toList hc]; rfl⟩
 have kS : ∃ tp p, W.cell? ⟨9, 0, none⟩ = some (.iface tp p) := by
  obtain ⟨_, u, v, hc, _, _⟩ := iface_of_trod Tryz.underlying23 hd8
  exact ⟨u, v, by rw [World.var?_cell hg8 hv8 0, Array.eq_one_of_toList hc]; rfl⟩
 have hcO := Lib.cells_of_tab (zs := [4, 5, 3, 2, 0, 1]) Tryz.underlying403 Tryz.underlying230 (by kernel_rfl) (by kernel_rfl) hd2
 have hcM := Lib.cells_of_tab (zs := [5, 4, 2, 3, 1, 0]) Tryz.underlying403 Tryz.underlying230 (by kernel_rfl) (by kernel_rfl) hd3
 refine ⟨⟨⟨?_, ?_, ?_, kS, kR, ?_⟩, ?_⟩, ⟨?_, ?_⟩⟩
 ·obtain ⟨_, _, hc⟩ := kR
  obtain ⟨_, _, hc'⟩ := kS
  have := cell_lt hc
  have := cell_lt hc'
  simp at *
  omega
 ·intro k hk
  have := strs_of_trod (ss := [[43], [45], [42], [47], [37]]) Tryz.underlying272 Tryz.underlying9 (by kernel_rfl) hd0 k (Sp.opSign k) (by
   match k, hk with
   | 0, _ => rfl
   | 1, _ => rfl
   | 2, _ => rfl
   | 3, _ => rfl
   | 4, _ => rfl)
  rw [World.var?_cell hg0 hv0 k, ← this]; simp
 ·intro k hk
  have := strs_of_trod (ss := [[60], [60, 61], [61, 61], [33, 61], [62, 61], [62]]) Tryz.underlying273 Tryz.underlying9 (by kernel_rfl) hd1 k (Sp.relSign k) (by
   match k, hk with
   | 0, _ => rfl
   | 1, _ => rfl
   | 2, _ => rfl
   | 3, _ => rfl
   | 4, _ => rfl
   | 5, _ => rfl)
  rw [World.var?_cell hg1 hv1 k, ← this]; simp
 ·unfold Lib.TabIs
  rw [hv6, ← Lib.cells_of_tab (zs := Lib.pow10Tab) Tryz.underlying423 Tryz.underlying416 (by kernel_rfl) (by kernel_rfl) hd6]
 ·obtain ⟨name, u, ty, e1, e2, e3, e4, e5⟩ := hh _ (List.mem_singleton.2 rfl)
  have en : name = [101, 114, 114, 111, 114] := (Option.some.inj e1).symm
  subst en
  obtain rfl := Option.some.inj (rtOf.symm.trans e2)
  have hm : ty ∈ (List.range 487).filter fun t => Tryz.prog.rowNamed t [101, 114, 114, 111, 114] := List.mem_filter.2 ⟨List.mem_range.2 (by rw [← tSize]; exact e3), e4⟩
  rw [oneRow] at hm
  obtain rfl := List.mem_singleton.1 hm
  have hh : typeHandle Tryz.prog 23 = .pointer (some ⟨11, 23, none⟩) := by kernel_rfl
  rw [hh] at e5
  show W.cell? _ = _
  simpa using World.var?_cell gET e5 0
 ·intro k hk
  rw [World.var?_cell hg3 hv3 k, ← Array.getElem?_toList, hcM]
  match k, hk with
  | 0, _ => rfl
  | 1, _ => rfl
  | 2, _ => rfl
  | 3, _ => rfl
  | 4, _ => rfl
  | 5, _ => rfl
 ·intro k hk
  rw [World.var?_cell hg2 hv2 k, ← Array.getElem?_toList, hcO]
  match k, hk with
  | 0, _ => rfl
  | 1, _ => rfl
  | 2, _ => rfl
  | 3, _ => rfl
  | 4, _ => rfl
  | 5, _ => rfl
theorem door_met3 (os : Os) (args : Array Value) : laidMetH Tryz.prog Rows.straightRow.laid ((World.doorLaid Tryz.prog 400 os).forCall (fun _ _ => 0) ⟨#[], args, []⟩).memory :=
 laidMetH_of_parts3 (fuel := 8) (laidMet_of_run' 8 (by kernel_rfl) (by kernel_rfl)) (by kernel_rfl) (by kernel_rfl)
end Go.Proofs.YtiopfihjmkfdmaaGreatDoor
namespace Go.Proofs.YtiopfihjmkfdmaaGreatDoor
open Go.ChangeShapes Go.WideShapes Go.ChangeAt Go.RowKit
open Go.ChangeMaps (open_string shut_string)
set_option maxRecDepth 100000
section
variable {H : Type} {enc : TypeId × Value → H} {P : Program} {w : World} {base : Nat} {spare : Nat → Bool} {held : Bool}
theorem trodAll_five {t0 t1 t2 t3 t4 : TypeId} {args : Array Value} {ds : List (DataW H)} {ps : List MemPlace} (h : DataW.TrodAll enc P w base spare held [t0, t1, t2, t3, t4] args.toList ds ps) :
  ∃ v0 v1 v2 v3 v4 d0 d1 d2 d3 d4 p0 p1 p2 p3 p4, args = #[v0, v1, v2, v3, v4] ∧ ds = [d0, d1, d2, d3, d4] ∧ ps = p0 ++ p1 ++ p2 ++ p3 ++ p4 ∧ DataW.Trod enc P w base spare held t0 v0 d0 p0 ∧ DataW.Trod enc P w base spare held t1 v1 d1 p1 ∧ DataW.Trod enc P w base spare held t2 v2 d2 p2 ∧ DataW.Trod enc P w base spare held t3 v3 d3 p3 ∧ DataW.Trod enc P w base spare held t4 v4 d4 p4 := by
 obtain ⟨v0, vs0, d0, ds0, p0, q0, hargs, rfl, rfl, hd0, hr0⟩ := trodAll_cons h
 obtain ⟨v1, vs1, d1, ds1, p1, q1, rfl, rfl, rfl, hd1, hr1⟩ := trodAll_cons hr0
 obtain ⟨v2, vs2, d2, ds2, p2, q2, rfl, rfl, rfl, hd2, hr2⟩ := trodAll_cons hr1
 obtain ⟨v3, vs3, d3, ds3, p3, q3, rfl, rfl, rfl, hd3, hr3⟩ := trodAll_cons hr2
 obtain ⟨v4, vs4, d4, ds4, p4, q4, rfl, rfl, rfl, hd4, hr4⟩ := trodAll_cons hr3
 obtain ⟨rfl, rfl, rfl⟩ := trodAll_nil hr4
 exact ⟨v0, v1, v2, v3, v4, d0, d1, d2, d3, d4, p0, p1, p2, p3, p4, by rw [← Array.toList_inj]; exact hargs, rfl, by simp, hd0, hd1, hd2, hd3, hd4⟩
theorem trodAll_mk5 {t0 t1 t2 t3 t4 : TypeId} {v0 v1 v2 v3 v4 : Value} {d0 d1 d2 d3 d4 : DataW H} {p0 p1 p2 p3 p4 : List MemPlace} (h0 : DataW.Trod enc P w base spare held t0 v0 d0 p0) (h1 : DataW.Trod enc P w base spare held t1 v1 d1 p1)
  (h2 : DataW.Trod enc P w base spare held t2 v2 d2 p2) (h3 : DataW.Trod enc P w base spare held t3 v3 d3 p3) (h4 : DataW.Trod enc P w base spare held t4 v4 d4 p4) : DataW.TrodAll enc P w base spare held [t0, t1, t2, t3, t4] [v0, v1, v2, v3, v4] [d0, d1, d2, d3, d4] (p0 ++ (p1 ++ (p2 ++ (p3 ++ p4)))) := ⟨p0, p1 ++ (p2 ++ (p3 ++ p4)), h0, trodAll_mk4 h1 h2 h3 h4, rfl⟩
end
theorem straight_lifted (os : Os) (started : os.Started) (H : Type) (enc : TypeId × Value → H) :
  ReturnsInHanded {} Tryz.checked os 11 .any (fun w args => (Rows.straightSpec.pre enc Tryz.prog Tryz.f11 [] false w args ∧ laidMetH Tryz.prog Rows.straightRow.laid w) ∧ sizedMet enc Tryz.prog Tryz.f11 (OpenSpec.ofChange Rows.straightSpec) false w args)
   (Rows.straightSpec.post enc Tryz.prog Tryz.f11 false true false false) := by
 refine returnsInHanded_of_change_and (C := Tryz.checked) (X := fun w _ => laidMetH Tryz.prog Rows.straightRow.laid w) (fun _ _ _ hh h => h.of_heap hh) own started (by kernel_rfl) Tryz.func11
  (ChangeSpec.witness_shaped (enc := enc) (C := Tryz.checked) (os := os) (X := fun w _ => laidMetH Tryz.prog Rows.straightRow.laid w) false (World.doorLaid Tryz.prog 400 os) #[.string ByteArray.empty, .int .i64 0, .int .i64 0, .int .i64 0, .bool false] 8 rfl (World.shaped_of_RefB (by kernel_rfl) (by kernel_rfl)) (by kernel_rfl) (by kernel_rfl) (by kernel_rfl) (door_met3 os _)) ?_
 intro W base args ds gs before hval0 hW _ _ hL _
 have hval : ∀ (j : Nat) t v, Tryz.f11.params[j]? = some t → args[j]? = some v → Value.okWide Tryz.prog W .any base t v := hval0
 have hW' := hW
 obtain ⟨p, q, hA0, hV, rfl, hfz, hnd⟩ := hW
 have hA : DataW.TrodAll enc Tryz.prog W 0 (fun _ => true) true Tryz.f11.params.toList args.toList ds p := hA0
 rw [Tryz.params11] at hA hval
 obtain ⟨v0, v1, v2, v3, v4, d0, d1, d2, d3, d4, p0, p1, p2, p3, p4, rfl, rfl, rfl, h0, h1, h2, h3, h4⟩ := trodAll_five hA
 obtain ⟨rfl, rfl⟩ := trodVars_none hV
 obtain ⟨s, rfl, rfl, rfl, ws⟩ := open_string Tryz.underlying9 (hval 0 9 v0 rfl rfl) h0
 obtain ⟨x1, rfl, rfl, rfl, w1⟩ := open_int Tryz.underlying3 (hval 1 3 v1 rfl rfl) h1
 obtain ⟨x2, rfl, rfl, rfl, w2⟩ := open_int Tryz.underlying3 (hval 2 3 v2 rfl rfl) h2
 obtain ⟨x3, rfl, rfl, rfl, w3⟩ := open_int Tryz.underlying3 (hval 3 3 v3 rfl rfl) h3
 obtain ⟨x4, rfl, rfl, rfl⟩ := open_bool Tryz.underlying4 (hval 4 4 v4 rfl rfl) h4
 clear hA0 hval0
 obtain ⟨hL2, hTu⟩ := laid3_of hL
 refine (Straight_calls s x1 x2 x3 x4 W hL2 hTu).mono fun e W' ⟨he, bel⟩ => ?_
 subst he
 exact ⟨_, rfl, _, _, _, [], _, [], hW', trodAll_mk1 (shut_bool Tryz.underlying4 _), trodAll_mk5 (shut_string Tryz.underlying9 ws) (shut_int Tryz.underlying3 w1) (shut_int Tryz.underlying3 w2) (shut_int Tryz.underlying3 w3) (shut_bool Tryz.underlying4 _), rfl, bel.frame _, fun h => by cases h⟩
set_option maxRecDepth 100000 in
set_option maxHeartbeats 4000000 in
theorem straight_joined : joinedFacts Tryz.prog 11 Tryz.f11 Rows.straightSpec Rows.straightRow = true :=
 joined_of (by as_aux_lemma => kernel_rfl) f_laidOut f_mapsRowed (by as_aux_lemma => kernel_rfl) (by as_aux_lemma => kernel_rfl) rfl f_stops rfl f_knobs
  (by as_aux_lemma => kernel_rfl) (by as_aux_lemma => kernel_rfl) (by as_aux_lemma => kernel_rfl) (by as_aux_lemma => kernel_rfl)
  (by as_aux_lemma => kernel_rfl) (by as_aux_lemma => kernel_rfl) (by as_aux_lemma => kernel_rfl) (by as_aux_lemma => kernel_rfl) (by as_aux_lemma => kernel_rfl)
  (by as_aux_lemma => kernel_rfl) (by as_aux_lemma => kernel_rfl) (by as_aux_lemma => kernel_rfl) (by as_aux_lemma => kernel_rfl) f_keys rfl f_heard f_enter (by as_aux_lemma => kernel_rfl) (by as_aux_lemma => kernel_rfl)
  (by as_aux_lemma => kernel_rfl) (by as_aux_lemma => kernel_rfl) (by as_aux_lemma => kernel_rfl) (by as_aux_lemma => kernel_rfl)
set_option maxHeartbeats 4000000 in
theorem straight_row : Rows.StraightSaid :=
 OpenClaim.holds_of_wide 11 Tryz.f11 rfl rfl rfl rfl rfl rfl rfl ⟨rfl, rfl, rfl, rfl, rfl⟩ rfl rfl rfl rfl rfl (by as_aux_lemma => kernel_rfl) Tryz.func11 straight_joined
  (of_decide_eq_true (by as_aux_lemma => kernel_rfl)) (by unfold Func.isWrapper; first | (rw [if_pos (by decide +kernel)]; kernel_rfl) | (rw [if_neg (by decide +kernel)]; exact ⟨rfl, rfl⟩))
  (fun os started H enc _ => straight_lifted os started H enc)
theorem straight_proved : Rows.StraightCardSaid :=
 Claim7.holds_tied_plain_at .later [] [.data, .data, .data, .data, .data, .data, .data, .handle, .sentinel, .sentinel] true (true, Rows.straightCard.stood.harness.2) true
  straight_row (fun _ h => by cases h) (by as_aux_lemma => kernel_rfl) (fun _ h => by cases h) straight_row_tie rfl ⟨rfl, rfl⟩ (by as_aux_lemma => kernel_rfl) rfl
  (fun f fn hf hfn => by
   obtain rfl : f = 11 := Option.some.inj ((show Tryz.prog.funcNamed "invariants/invariantslaw.Straight" = some 11 by as_aux_lemma => kernel_rfl).symm.trans hf) |>.symm
   obtain rfl : fn = Tryz.f11 := (Option.some.inj (Tryz.func11.symm.trans hfn)).symm
   exact ⟨by as_aux_lemma => kernel_rfl, fun j t ht => by
    rw [Tryz.params11] at ht
    have h3 : t = 9 ∨ t = 4 ∨ t = 3 := by
     rcases j with _ | _ | _ | _ | _ | j
     ·left; simpa using ht.symm
     ·right; right; simpa using ht.symm
     ·right; right; simpa using ht.symm
     ·right; right; simpa using ht.symm
     ·right; left; simpa using ht.symm
     ·simp at ht
    rcases h3 with rfl | rfl | rfl
    ·exact (show Tryz.prog.wantsStandIn 9 = false by as_aux_lemma => kernel_rfl)
    ·exact (show Tryz.prog.wantsStandIn 4 = false by as_aux_lemma => kernel_rfl)
    ·exact (show Tryz.prog.wantsStandIn 3 = false by as_aux_lemma => kernel_rfl)⟩)
  (by as_aux_lemma => kernel_rfl)
end Go.Proofs.YtiopfihjmkfdmaaGreatDoor
