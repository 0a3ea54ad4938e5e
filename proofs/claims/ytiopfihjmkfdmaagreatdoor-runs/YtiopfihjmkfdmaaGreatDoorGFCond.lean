/- THE DOCUMENT'S ANSWER: sums whole, cond, name. -/
import Derived.Test.YtiopfihjmkfdmaaGreatDoorGFProd
import Derived.Test.YtiopfihjmkfdmaaGreatDoorGStmt
namespace Go.Proofs.YtiopfihjmkfdmaaGreatDoor
open Go.RowKit
open Sp (Sm Bl Ct Tr)
set_option maxRecDepth 100000
set_option maxHeartbeats 8000000

theorem funary_reads (base b pb : Nat) (s : ByteArray) : ∀ (n o : Nat), o ≤ 12 → FReads 210 base b pb s o n (Sp.pUnary Tr n o)
  | 0, _, _ => fun l _ _ hl => absurd hl (Nat.not_lt_zero _)
  | n + 1, o, ho => by
    intro l p w hl h hlim
    have IH : o < 12 → FReads 210 base b pb s (o + 1) n (Sp.pUnary Tr n (o + 1)) := fun h12 => funary_reads base b pb s n (o + 1) (by omega)
    by_cases h45 : Sp.tok l = [45]
    · exact unary_minus base b pb s o n ho IH l p w hl h hlim h45
    by_cases h40 : Sp.tok l = [40]
    · refine unary_bracket base b pb s o n ho (fun h12 => ?_) (sum_idle base b pb s) l p w hl h hlim h40
      have hd : ∀ l (x : Sm) l1, Sp.pUnary Tr n (o + 1) l = .ok (x, l1) → l1.length ≤ l.length := fun l x l1 e => by have := Sp.pUnary_lt (A := Tr) n (o + 1) l x l1 e; omega
      exact fsum_reads base b pb s (o + 1) n (Sp.pProd Tr (Sp.pUnary Tr n (o + 1))) (fun l x l1 e => Sp.pWith_dec (A := Tr) hd l x l1 e) (fproduct_reads base b pb s (o + 1) n _ hd (IH h12))
    by_cases hk : Sp.tokKind l = 3
    · cases hv : Sp.numVal (Sp.tok l) with
      | some v => exact unary_number base b pb s o n l p w h hlim hk v hv
      | none =>
        have hvn : Sp.nameVal l = none := by
          cases hq : Sp.nameVal l with
          | none => rfl
          | some q => have := Sp.nameVal_kind hq; omega
        refine unary_wrong base b pb s o n l p w h h45 h40 (by rw [fVal_number hk, hv]) hvn ?_
        show Sp.pUnary Tr (n + 1) o l = _
        rw [pUnary_succ, if_pos hk, hv]; rfl
    · cases hv : Sp.nameVal l with
      | some k => exact unary_name base b pb s o n l p w h hlim k hv
      | none =>
        refine unary_wrong base b pb s o n l p w h h45 h40 (fVal_other hk) hv ?_
        show Sp.pUnary Tr (n + 1) o l = _
        rw [pUnary_succ, if_neg hk]
        by_cases hk2 : Sp.tokKind l = 2
        · rw [if_pos hk2, pName_none hv]
        · rw [if_neg hk2, if_neg h45]
          unfold bracketOf Sp.enter
          rw [if_neg h40]; rfl

theorem fS_reads (base b pb : Nat) (s : ByteArray) (o : Nat) (ho : o ≤ 12) (n : Nat) : FReads 135 base b pb s o n (Sp.pSum Tr (Sp.pUnary Tr n o)) := by
  have hd : ∀ l (x : Sm) l1, Sp.pUnary Tr n o l = .ok (x, l1) → l1.length ≤ l.length := fun l x l1 e => by have := Sp.pUnary_lt (A := Tr) n o l x l1 e; omega
  exact fsum_reads base b pb s o n (Sp.pProd Tr (Sp.pUnary Tr n o)) (fun l x l1 e => Sp.pWith_dec (A := Tr) hd l x l1 e) (fproduct_reads base b pb s o n _ hd (funary_reads base b pb s n o ho))

/-- a sum -/
theorem fS_calls {base b pb : Nat} {s : ByteArray} {o : Nat} (ho : o ≤ 12) {l : Sp.Bs} {p : FP} {w : World} (h : FR base b pb s l (o : Int) p w) (hl : FLim p l) :
    Calls Tryz.prog 135 #[.pointer (some ⟨b, 0, none⟩)] w (FPostS base b pb s o p l w (Sp.pS Tr o l)) := fS_reads base b pb s o ho (l.length + 1) l p w (by omega) h hl

/-- what is got of a condition -/
def FGotC (p p' : FP) (l : Sp.Bs) (k : Int) : Sp.R (Nat × Sm × Sm) → Prop
  | .ok ((rel, x, y), l') => FMade p p' l l' ∧ (∃ j : Nat, k = (j : Int) ∧ j < p'.ns.length ∧ FCd p'.ns p.ns.length rel x y j p.ct p'.ct) ∧ p'.qs = p.qs ++ (numsS x ++ numsS y)
  | .error _ => FBad p p' l

def FPostC (base b pb : Nat) (s : ByteArray) (o : Nat) (p : FP) (l : Sp.Bs) (w : World) (r : Sp.R (Nat × Sm × Sm)) (e : Ending) (w' : World) : Prop :=
  ∃ (k : Int) (p' : FP), e = .returned (.int .i64 k) ∧ FX base b pb s (left r) (o : Int) p' w' ∧ FK b pb p p' w w' ∧ FGotC p p' l k r

theorem cond_idle (base b pb : Nat) (s : ByteArray) : FIdle 133 base b pb s 0 := by
  intro er p w h
  obtain ⟨q, t, c6, hz, hz2, c3⟩ := h.asks
  go_enter Tryz.func133, Tryz.ntmps133
  go_wp2_with fail
  refine (sum_idle base b pb s er p w h).mono ?_
  rintro e w1 ⟨rfl, rfl⟩
  go_wp2_with fail
  go_ret
  exact ⟨rfl, rfl⟩

def condOf (o : Nat) : Sp.R Sm → Sp.R (Nat × Sm × Sm)
  | .ok (x, l1) => (match Sp.relOf (Sp.tok l1) with
    | some k => (match Sp.pS Tr o (Sp.next l1) with
      | .ok (y, l2) => .ok ((k, x, y), l2)
      | .error e => .error e)
    | none => .error (2, l1.length))
  | .error e => .error e

def condA (A : Sp.Alg) (o : Nat) : Sp.R A.S → Sp.R (Nat × A.S × A.S)
  | .ok (x, l1) => (match Sp.relOf (Sp.tok l1) with
    | some k => (match Sp.pS A o (Sp.next l1) with
      | .ok (y, l2) => .ok ((k, x, y), l2)
      | .error e => .error e)
    | none => Sp.bad 2 l1)
  | .error e => .error e

theorem pCond_gen (A : Sp.Alg) (o : Nat) (l : Sp.Bs) : Sp.pCond A o l = condA A o (Sp.pS A o l) := by
  unfold Sp.pCond
  rcases Sp.pS A o l with e | ⟨x, l1⟩
  · rfl
  · rfl

theorem pCond_eq (o : Nat) (l : Sp.Bs) : Sp.pCond Tr o l = condOf o (Sp.pS Tr o l) := by
  rw [pCond_gen]
  rcases Sp.pS Tr o l with e | ⟨x, l1⟩
  · rfl
  · unfold condA condOf
    simp only
    cases Sp.relOf (Sp.tok l1) with
    | none => rfl
    | some k => simp only; rcases Sp.pS Tr o (Sp.next l1) with e | ⟨y, l2⟩ <;> rfl

theorem relOf_cases {t : Sp.Bs} {k : Nat} (h : Sp.relOf t = some k) : t = [60] ∧ k = 0 ∨ t = [60, 61] ∧ k = 1 ∨ t = [61, 61] ∧ k = 2 ∨ t = [33, 61] ∧ k = 3 ∨ t = [62, 61] ∧ k = 4 ∨ t = [62] ∧ k = 5 := by
  unfold Sp.relOf at h
  repeat' split at h
  all_goals first | (rename_i he; cases h; simp [he]) | cases h

theorem cond_fin {base b pb : Nat} {s : ByteArray} {o : Nat} {p p1 p3 : FP} {l l1 : Sp.Bs} {k k3 : Int} {x : Sm} {rel : Nat} {n : FNode} {v : Value} {w w' : World} (hS : Sp.pS Tr o l = .ok (x, l1)) (hrel : Sp.relOf (Sp.tok l1) = some rel) (ha : n.a = k) (hb : n.b = k3) (hs : n.sign = Sp.tok l1)
    (g1 : FGotS p p1 l k (.ok (x, l1))) (g3 : FGotS p1 p3 (Sp.next l1) k3 (Sp.pS Tr o (Sp.next l1)))
    (h5 : FX base b pb s (left (Sp.pS Tr o (Sp.next l1))) (o : Int) { p3 with ns := p3.ns ++ [n], nv := v } w') (k5 : FK b pb p { p3 with ns := p3.ns ++ [n], nv := v } w w') :
    FPostC base b pb s o p l w (Sp.pCond Tr o l) (.returned (.int .i64 (p3.ns.length : Nat))) w' := by
  rw [pCond_eq, hS]
  obtain ⟨m1, ⟨j, hj1, hj2, hj3⟩, q1⟩ := g1
  have hnx : (Sp.next l1).length < l1.length := Sp.next_lt_of_tok (t := Sp.tok l1) rfl (by rcases relOf_cases hrel with ⟨e, _⟩ | ⟨e, _⟩ | ⟨e, _⟩ | ⟨e, _⟩ | ⟨e, _⟩ | ⟨e, _⟩ <;> rw [e] <;> simp)
  refine ⟨_, _, rfl, ?_, k5, ?_⟩
  · show FX base b pb s (left (match Sp.relOf (Sp.tok l1) with
      | some k => (match Sp.pS Tr o (Sp.next l1) with
        | .ok (y, l2) => .ok ((k, x, y), l2)
        | .error e => .error e)
      | none => .error (2, l1.length) : Sp.R (Nat × Sm × Sm))) _ _ _
    rw [hrel]
    rcases hq : Sp.pS Tr o (Sp.next l1) with e | ⟨y, l2⟩
    · rw [hq] at h5; exact h5
    · rw [hq] at h5; exact h5
  · show FGotC _ _ _ _ (match Sp.relOf (Sp.tok l1) with
      | some k => (match Sp.pS Tr o (Sp.next l1) with
        | .ok (y, l2) => .ok ((k, x, y), l2)
        | .error e => .error e)
      | none => .error (2, l1.length))
    rw [hrel]
    rcases hq : Sp.pS Tr o (Sp.next l1) with e | ⟨y, l2⟩
    · rw [hq] at g3
      exact FBad.made m1 (FBad.node (l1 := Sp.next l1) g3 hnx n v)
    · rw [hq] at g3
      obtain ⟨m2, ⟨j2, i1, i2, i3⟩, q2⟩ := g3
      have hlen := m2.len
      have hlen1 := m1.len
      have hm : FMade p p3 l l2 := (m1.trans (FMade.eat (by omega))).trans m2
      refine ⟨hm.node n v (by have := m1.nl; have := m2.nl; omega), ⟨p3.ns.length, rfl, by simp, ?_⟩, by show p3.qs = _; rw [q2, q1, List.append_assoc]⟩
      refine ⟨n, j, j2, p1.ct, by simp, by rw [ha, hj1], by rw [hb, i1], ?_, ?_, by omega, i2, hj3.mono (Nat.le_refl _) (fun i _ hi => ?_), i3.mono hlen1 (fun i _ hi => ?_)⟩
      · rw [hs]; rcases relOf_cases hrel with ⟨e, e'⟩ | ⟨e, e'⟩ | ⟨e, e'⟩ | ⟨e, e'⟩ | ⟨e, e'⟩ | ⟨e, e'⟩ <;> rw [e, e'] <;> rfl
      · rcases relOf_cases hrel with ⟨e, e'⟩ | ⟨e, e'⟩ | ⟨e, e'⟩ | ⟨e, e'⟩ | ⟨e, e'⟩ | ⟨e, e'⟩ <;> omega
      · show (p3.ns ++ [n])[i]? = _
        rw [List.getElem?_append_left (by omega)]
        exact m2.at (by omega)
      · show (p3.ns ++ [n])[i]? = _
        rw [List.getElem?_append_left (by omega)]

theorem fcond_calls {base b pb : Nat} {s : ByteArray} {o : Nat} (ho : o ≤ 12) {l : Sp.Bs} {p : FP} {w : World} (h : FR base b pb s l (o : Int) p w) (hl : FLim p l) :
    Calls Tryz.prog 133 #[.pointer (some ⟨b, 0, none⟩)] w (FPostC base b pb s o p l w (Sp.pCond Tr o l)) := by
  have HS := fS_calls ho h hl
  rcases hS : Sp.pS Tr o l with er | ⟨x, l1⟩
  · rw [hS] at HS
    have HE : Hid (Sp.pCond Tr o l = .error er) := by unfold Hid; rw [pCond_eq, hS]; rfl
    have HHS : Hid (Calls Tryz.prog 135 #[.pointer (some ⟨b, 0, none⟩)] w (FPostS base b pb s o p l w (.error er))) := HS
    clear HS hS h
    go_enter Tryz.func133, Tryz.ntmps133
    go_wp2_with fail
    refine HHS.out.mono ?_
    rintro e w1 ⟨k, p1, rfl, h1, k1, g1⟩
    obtain ⟨q, t, c6, hz, hz2, c3⟩ := FE.asks (show FE base b pb s er p1 w1 from h1)
    have H1 : Hid (_ ∧ _ ∧ _) := ⟨h1, k1, g1⟩
    clear h1 k1 g1
    go_wp2_with fail
    go_ret
    rw [HE.out]
    exact ⟨0, p1, rfl, H1.out.1, H1.out.2.1, H1.out.2.2⟩
  · rw [hS] at HS
    have HHS : Hid (Calls Tryz.prog 135 #[.pointer (some ⟨b, 0, none⟩)] w (FPostS base b pb s o p l w (.ok (x, l1)))) := HS
    have HSS : Hid (Sp.pS Tr o l = .ok (x, l1)) := hS
    clear HS hS h
    cases hrel : Sp.relOf (Sp.tok l1) with
    | none =>
      have HE : Hid (Sp.pCond Tr o l = .error (2, l1.length)) := by unfold Hid; rw [pCond_eq, HSS.out]; simp only [condOf, hrel]; rfl
      have hne : ∀ t ∈ [[60], [60, 61], [61, 61], [33, 61], [62, 61], [62]], Sp.tok l1 ≠ t := by
        intro t ht e
        rw [e] at hrel
        simp at ht
        rcases ht with rfl | rfl | rfl | rfl | rfl | rfl <;> simp [Sp.relOf] at hrel
      have n1 : ((⟨(Sp.tok l1).toArray⟩ : ByteArray).toList == [60]) = false := by rw [ByteArray.toList_eq]; simpa using hne [60] (by simp)
      have n2 : ((⟨(Sp.tok l1).toArray⟩ : ByteArray).toList == [60, 61]) = false := by rw [ByteArray.toList_eq]; simpa using hne [60, 61] (by simp)
      have n3 : ((⟨(Sp.tok l1).toArray⟩ : ByteArray).toList == [61, 61]) = false := by rw [ByteArray.toList_eq]; simpa using hne [61, 61] (by simp)
      have n4 : ((⟨(Sp.tok l1).toArray⟩ : ByteArray).toList == [33, 61]) = false := by rw [ByteArray.toList_eq]; simpa using hne [33, 61] (by simp)
      have n5 : ((⟨(Sp.tok l1).toArray⟩ : ByteArray).toList == [62, 61]) = false := by rw [ByteArray.toList_eq]; simpa using hne [62, 61] (by simp)
      have n6 : ((⟨(Sp.tok l1).toArray⟩ : ByteArray).toList == [62]) = false := by rw [ByteArray.toList_eq]; simpa using hne [62] (by simp)
      clear hne hrel
      go_enter Tryz.func133, Tryz.ntmps133
      go_wp2_with fail
      refine HHS.out.mono ?_
      rintro e w1 ⟨k, p1, rfl, h1, k1, g1⟩
      have hfr : FR base b pb s l1 (o : Int) p1 w1 := h1
      obtain ⟨c6, c3, hsz, hl4⟩ := hfr.asks
      have H1 : Hid (_ ∧ _ ∧ _) := ⟨h1, k1, g1⟩
      have HB : Hid (⟨(Sp.tok l1).toArray⟩ = (⟨(Sp.tok l1).toArray⟩ : ByteArray)) := rfl
      clear h1 k1 g1 HHS HSS hsz HB
      generalize (⟨(Sp.tok l1).toArray⟩ : ByteArray) = t at *
      go_wp2_with fail
      refine (wrong_fr hfr 2 (by decide) 2 rfl).mono ?_
      rintro e w2 ⟨rfl, h2, k2⟩
      obtain ⟨q, t2, c62, hz, hz2, c32⟩ := h2.asks
      go_wp2_with fail
      go_ret
      rw [HE.out]
      exact ⟨0, p1, rfl, h2, H1.out.2.1.trans k2, FBad.of_made H1.out.2.2.1⟩
    | some rel =>
      have HREL : Hid (Sp.relOf (Sp.tok l1) = some rel) := hrel
      rcases relOf_cases hrel with ⟨ht, _⟩ | ⟨ht, _⟩ | ⟨ht, _⟩ | ⟨ht, _⟩ | ⟨ht, _⟩ | ⟨ht, _⟩
      all_goals
        have HT : Hid (Sp.tok l1 = _) := ht
        have hnx := Sp.next_lt_of_tok ht (by simp)
        clear hrel
        go_enter Tryz.func133, Tryz.ntmps133
        go_wp2_with fail
        refine HHS.out.mono ?_
        rintro e w1 ⟨k, p1, rfl, h1, k1, g1⟩
        have hfr : FR base b pb s l1 (o : Int) p1 w1 := h1
        obtain ⟨c6, c3, hsz, hl4⟩ := hfr.asks
        rw [ht] at c3
        have HL : Hid (FLim p1 (Sp.next l1)) := (g1.1.trans (FMade.eat (by omega))).lim hl
        have H1 : Hid (_ ∧ _ ∧ _) := ⟨h1, k1, g1⟩
        clear h1 k1 g1 hsz ht
        go_wp2_with fail
        refine (fstep_fr hfr).mono ?_
        rintro e w2 ⟨rfl, h2, k2⟩
        go_wp2_with fail
        refine (fS_calls ho h2 HL.out).mono ?_
        rintro e w3 ⟨k3, p3, rfl, h3, k3', g3⟩
        have hroom := room_of g3 HL.out
        have H3 : Hid (_ ∧ _ ∧ _) := ⟨h3, k3', g3⟩
        clear h3 k3' g3
        go_wp2_with fail
        refine (node_calls H3.out.1 { kind := 5, a := k, b := k3, sign := _ } hroom).mono ?_
        rintro e w4 ⟨rfl, v, h4, k4⟩
        go_wp2_with fail
        go_ret
        exact cond_fin HSS.out HREL.out rfl rfl HT.out.symm H1.out.2.2 H3.out.2.2 h4 (((H1.out.2.1.trans k2).trans H3.out.2.1).trans k4)

end Go.Proofs.YtiopfihjmkfdmaaGreatDoor

/- THE DOCUMENT'S ANSWER: a node is written; name, begins. -/
namespace Go.Proofs.YtiopfihjmkfdmaaGreatDoor
open Go.RowKit
open Sp (Sm Bl Ct Tr)
set_option maxRecDepth 100000
set_option maxHeartbeats 8000000

theorem fCells_get : ∀ (ns : List FNode) (j c : Nat), c < 10 → (fCells ns)[10 * j + c]? = (ns[j]?).bind fun d => (fCell d)[c]?
  | [], j, c, _ => by simp [fCells]
  | d :: ns, 0, c, hc => by
    show (fCell d ++ fCells ns)[10 * 0 + c]? = _
    rw [List.getElem?_append_left (by show _ < 10; omega)]
    simp
  | d :: ns, j + 1, c, hc => by
    show (fCell d ++ fCells ns)[10 * (j + 1) + c]? = _
    rw [List.getElem?_append_right (by show 10 ≤ _; omega)]
    rw [show 10 * (j + 1) + c - (fCell d).length = 10 * j + c by show _ - 10 = _; omega, fCells_get ns j c hc]
    simp

theorem fCells_len (ns : List FNode) : (fCells ns).length = ns.length * 10 := by
  induction ns with
  | nil => rfl
  | cons d ns ih => show (fCell d ++ fCells ns).length = _; rw [List.length_append, ih]; show 10 + _ = _; simp; omega

theorem fCells_set {ns : List FNode} {j c : Nat} {d d' : FNode} {u : Value} (hd : ns[j]? = some d) (hc : c < 10) (hu : (fCell d).set c u = fCell d') : (fCells ns).set (10 * j + c) u = fCells (ns.set j d') := by
  apply List.ext_getElem?
  intro m
  have em : m = 10 * (m / 10) + m % 10 := by omega
  have hm : m % 10 < 10 := Nat.mod_lt _ (by omega)
  have hj : j < ns.length := (List.getElem?_eq_some_iff.1 hd).1
  rw [em, fCells_get _ _ _ hm, List.getElem?_set, List.getElem?_set]
  by_cases e : j = m / 10
  · subst e
    rw [if_pos rfl, if_pos hj]
    have h1 := congrArg (fun l : List Value => l[m % 10]?) hu
    simp only [List.getElem?_set] at h1
    by_cases ec : c = m % 10
    · subst ec
      rw [if_pos rfl, if_pos (by rw [fCells_len]; omega)]
      rw [if_pos rfl, if_pos (by show _ < 10; omega)] at h1
      simpa using h1
    · rw [if_neg (by omega), fCells_get _ _ _ hm, hd]
      rw [if_neg ec] at h1
      simpa using h1
  · rw [if_neg (by omega), if_neg e, fCells_get _ _ _ hm]

theorem ownsRow_set {w : World} {base : Nat} {e : TypeId} {sz n i g cap : Nat} {xs : List Value} (h : w.ownsRow base e sz (.slice (some ⟨g, 0, none⟩) n cap) n xs) (u : Value) (_hi : i < n * sz) : (w.setCell ⟨g, i, none⟩ u).ownsRow base e sz (.slice (some ⟨g, 0, none⟩) n cap) n (xs.set i u) := by
  obtain ⟨h1, h2⟩ := h
  refine ⟨by simpa using h1, .inr ?_⟩
  rcases h2 with ⟨h2, _⟩ | ⟨g', cap', cur, hv, hg, hb, h3, h4, h5, h6⟩
  · cases h2
  · cases hv
    refine ⟨g, cap, cur.setIfInBounds i u, rfl, hg, heap_setCell_at hb i u, h3, h4, by simpa using h5, ?_⟩
    rw [Array.toList_setIfInBounds, List.take_set, h6]

theorem ownsRow_cell {w : World} {base : Nat} {e : TypeId} {sz n i g cap : Nat} {xs : List Value} {u : Value} (h : w.ownsRow base e sz (.slice (some ⟨g, 0, none⟩) n cap) n xs) (hu : xs[i]? = some u) : w.cell? ⟨g, i, none⟩ = some u ∧ w.frozen? ⟨g, i, none⟩ = false := by
  obtain ⟨h1, h2⟩ := h
  rcases h2 with ⟨h2, _⟩ | ⟨g', cap', cur, hv, hg, hb, h3, h4, h5, h6⟩
  · cases h2
  · cases hv
    refine ⟨cell_of hb i ?_, frozen_of hb i⟩
    rw [← h6] at hu
    have hlt := (List.getElem?_eq_some_iff.1 hu).1
    have : i < n * sz := by simp at hlt; omega
    rw [List.getElem?_take_of_lt this] at hu
    simpa using hu

/-- a node's cell is written -/
theorem FX.set_node {base b pb : Nat} {s : ByteArray} {r : Except (Nat × Nat) Sp.Bs} {o : Int} {p : FP} {w : World} (h : FX base b pb s r o p w) {g cap j c : Nat} {d d' : FNode} {u : Value} (hv : p.nv = .slice (some ⟨g, 0, none⟩) p.ns.length cap) (hd : p.ns[j]? = some d) (hc : c < 10) (hu : (fCell d).set c u = fCell d') :
    FX base b pb s r o { p with ns := p.ns.set j d' } (w.setCell ⟨g, j * 10 + c, none⟩ u) ∧ FK b pb p { p with ns := p.ns.set j d' } w (w.setCell ⟨g, j * 10 + c, none⟩ u) := by
  have hp := h.prog
  obtain ⟨i, a, t, o', er, hb⟩ := h.rdr
  have hj : j < p.ns.length := (List.getElem?_eq_some_iff.1 hd).1
  have hog : p.nv.ownBlock = some g := by rw [hv]; rfl
  have hnp := hp.rows_ne hp.blk prog_ne
  have hnb := hp.rows_ne hb rdr_ne
  have h1 : pb ≠ g := fun e => hnp.1 (by rw [e]; exact hog)
  have h2 : b ≠ g := fun e => hnb.1 (by rw [e]; exact hog)
  refine ⟨h.move (Below.heap_setCell _ _ _ _ h2) ⟨?_, ?_, ?_, hp.ge, by simpa using hp.n5, hp.q5⟩, rfl, rfl, rfl, by simp [World.setCell], fun _ e => .inl e, fun _ e => .inl e, ?_⟩
  · rw [Below.heap_setCell _ _ _ _ h1]; exact hp.blk
  · show World.ownsRow _ base 176 10 p.nv (p.ns.set j d').length (fCells (p.ns.set j d'))
    have hr := hp.rowN
    rw [hv] at hr ⊢
    rw [← fCells_set hd hc hu, List.length_set, Nat.mul_comm 10 j]
    exact ownsRow_set hr u (by omega)
  · exact ownsRow9_keep hp.rowQ (fun q hq => Below.heap_setCell _ _ _ _ (fun e => hp.rows_apart g hog (by rw [← show q = g from e]; exact hq)))
  · intro k hk _ _ h3 _
    exact Below.heap_setCell _ _ _ _ (fun e => h3 (by rw [show k = g from e]; exact hog))

/-- where the nodes lie -/
theorem FPAt.slice {base pb : Nat} {p : FP} {w : World} (h : FPAt base pb p w) (hn : 0 < p.ns.length) : ∃ g cap, p.nv = .slice (some ⟨g, 0, none⟩) p.ns.length cap ∧ p.ns.length ≤ cap ∧ cap ≤ maxLen := by
  rcases h.rowN.2 with ⟨_, h2⟩ | ⟨g, cap, cur, hv, _, _, h3, h4, _⟩
  · omega
  · exact ⟨g, cap, hv, h3, h4⟩

/-- a node's cells -/
theorem FPAt.cells {base pb : Nat} {p : FP} {w : World} (h : FPAt base pb p w) {g cap j c : Nat} {d : FNode} {u : Value} (hv : p.nv = .slice (some ⟨g, 0, none⟩) p.ns.length cap) (hd : p.ns[j]? = some d) (hc : c < 10) (hu : (fCell d)[c]? = some u) : w.cell? ⟨g, j * 10 + c, none⟩ = some u ∧ w.frozen? ⟨g, j * 10 + c, none⟩ = false := by
  have hr := h.rowN
  rw [hv] at hr
  exact ownsRow_cell hr (by rw [Nat.mul_comm j 10, fCells_get _ _ _ hc, hd]; exact hu)

theorem fname_fr {base b pb : Nat} {s : ByteArray} {l : Sp.Bs} {o : Int} {p : FP} {w : World} (h : FR base b pb s l o p w) :
    Calls Tryz.prog 131 #[.pointer (some ⟨b, 0, none⟩)] w fun e w' => ∃ k : Int, e = .returned (.int .i64 k) ∧ FX base b pb s (left (Sp.pName l)) o p w' ∧ FK b pb p p w w' ∧ ∀ kk, Sp.nameVal l = some kk → k = (kk : Int) := by
  obtain ⟨c6, c3, hsz, hl4⟩ := h.asks
  cases hv : Sp.nameVal l with
  | some kk =>
    obtain ⟨c, ht, hkd, hc1, hc2, rfl⟩ := nameVal_some hv
    have hE : Hid (Sp.pName l = .ok (c.toNat - 97, Sp.next l)) := pName_some hv
    have HN : Hid (∀ w, Calls Tryz.prog 129 #[.string ⟨[c].toArray⟩] w fun e w' => e = .returned (.bool true) ∧ w' = w) := by
      have := fIsName_calls l hl4
      rw [ht, hv] at this; exact this
    obtain ⟨t, et, hs1, hx⟩ := one_byte c
    rw [ht, ← et] at c3
    rw [← et] at HN
    have h0 : 0 < t.size := by omega
    have hx0 : (97 : Int) ≤ (t[0].toNat : Int) ∧ (t[0].toNat : Int) ≤ 104 := by rw [hx]; omega
    have hfin : Hid (((c.toNat - 97 : Nat) : Int) = (t[0].toNat : Int) - 97) := by unfold Hid; rw [hx]; omega
    clear hx et ht hv hkd hsz
    go_enter Tryz.func131, Tryz.ntmps131
    go_wp2_with fail
    refine (HN.out _).mono ?_
    rintro e w1 ⟨rfl, rfl⟩
    go_wp2_with fail
    refine (fstep_fr h).mono ?_
    rintro e w2 ⟨rfl, h2, k2⟩
    go_wp2_with fail
    go_ret
    exact ⟨_, rfl, by rw [hE.out]; exact h2, k2, fun kk e => by cases e; rw [hfin.out]⟩
  | none =>
    have hE : Hid (Sp.pName l = .error (2, l.length)) := pName_none hv
    have HN : Hid (∀ w, Calls Tryz.prog 129 #[.string ⟨(Sp.tok l).toArray⟩] w fun e w' => e = .returned (.bool false) ∧ w' = w) := by
      have := fIsName_calls l hl4
      rw [hv] at this; exact this
    clear hv hsz
    generalize (⟨(Sp.tok l).toArray⟩ : ByteArray) = t at *
    go_enter Tryz.func131, Tryz.ntmps131
    go_wp2_with fail
    refine (HN.out _).mono ?_
    rintro e w1 ⟨rfl, rfl⟩
    go_wp2_with fail
    refine (wrong_fr h 2 (by decide) 2 rfl).mono ?_
    rintro e w2 ⟨rfl, h2, k2⟩
    go_wp2_with fail
    go_ret
    exact ⟨0, rfl, by rw [hE.out]; exact h2, k2, fun kk e => by cases e⟩

theorem fname_fe {base b pb : Nat} {s : ByteArray} : FIdle 131 base b pb s 0 := by
  intro er p w h
  obtain ⟨i, l0, o, hb, hl0⟩ := h.blk
  have c6 := cell_of hb 6 (v := .int .i64 er.1) rfl
  have c3 := cell_of hb 3 (v := .string ⟨(Sp.tok l0).toArray⟩) rfl
  have hz : ((er.1 : Int) == 0) = false := by have := h.nz; simp; omega
  have hz2 : ¬ ((er.1 : Int) = 0) := by have := h.nz; omega
  generalize (er.1 : Int) = q at *
  go_enter Tryz.func131, Tryz.ntmps131
  go_wp2_with fail
  refine (fIsName_calls l0 hl0 _).mono ?_
  rintro e w1 ⟨rfl, rfl⟩
  go_wp2_with fail
  refine (wrong_fe h 2).mono ?_
  rintro e w1 ⟨rfl, rfl⟩
  go_wp2_with fail
  go_ret
  exact ⟨rfl, rfl⟩

/-- may a statement begin so? -/
def fBegins (l : Sp.Bs) : Bool := (Sp.nameVal l).isSome || Sp.tok l == Sp.wRead || Sp.tok l == Sp.wAssert || Sp.tok l == Sp.wIf || Sp.tok l == Sp.wWhile

theorem fBegins_calls (l : Sp.Bs) (hl : l.length ≤ 400) (w : World) :
    Calls Tryz.prog 98 #[.string ⟨(Sp.tok l).toArray⟩] w fun e w' => e = .returned (.bool (fBegins l)) ∧ w' = w := by
  have e : Hid (fBegins l = ((Sp.nameVal l).isSome || (⟨(Sp.tok l).toArray⟩ : ByteArray).toList == [114, 101, 97, 100] || (⟨(Sp.tok l).toArray⟩ : ByteArray).toList == [97, 115, 115, 101, 114, 116] || (⟨(Sp.tok l).toArray⟩ : ByteArray).toList == [105, 102] || (⟨(Sp.tok l).toArray⟩ : ByteArray).toList == [119, 104, 105, 108, 101])) := by
    unfold Hid; rw [ByteArray.toList_eq]; rfl
  have HN : Hid (∀ w, Calls Tryz.prog 129 #[.string ⟨(Sp.tok l).toArray⟩] w fun e w' => e = .returned (.bool (Sp.nameVal l).isSome) ∧ w' = w) := fIsName_calls l hl
  generalize (⟨(Sp.tok l).toArray⟩ : ByteArray) = t at *
  generalize (Sp.nameVal l).isSome = nb at *
  go_enter Tryz.func98, Tryz.ntmps98
  go_wp2_with fail
  refine (HN.out _).mono ?_
  rintro e w1 ⟨rfl, rfl⟩
  cases nb
  all_goals
    go_wp2
    all_goals
      go_ret
      exact ⟨ret_bool (by rw [e.out]; simp_all), rfl⟩

end Go.Proofs.YtiopfihjmkfdmaaGreatDoor

/- THE DOCUMENT'S ANSWER: statements, as long as one begins (plain mathematics). -/
namespace Go.Proofs.YtiopfihjmkfdmaaGreatDoor
open Sp (Sm Bl Ct Tr Alg R Bs)

theorem begins_word {l : Bs} (h : fBegins l = true) : Sp.tokKind l = 2 := by
  unfold fBegins at h
  simp only [Bool.or_eq_true, beq_iff_eq] at h
  rcases h with (((h | h) | h) | h) | h
  · cases hq : Sp.nameVal l with
    | none => rw [hq] at h; cases h
    | some k => exact Sp.nameVal_kind hq
  · exact tok_letters (c := 114) h rfl
  · exact tok_letters (c := 97) h rfl
  · exact tok_letters (c := 105) h rfl
  · exact tok_letters (c := 119) h rfl

theorem not_begins {l : Bs} (h : fBegins l = false) : Sp.nameVal l = none ∧ Sp.tok l ≠ Sp.wRead ∧ Sp.tok l ≠ Sp.wAssert ∧ Sp.tok l ≠ Sp.wIf ∧ Sp.tok l ≠ Sp.wWhile := by
  unfold fBegins at h
  simp only [Bool.or_eq_false_iff, beq_eq_false_iff_ne] at h
  obtain ⟨⟨⟨⟨h1, h2⟩, h3⟩, h4⟩, h5⟩ := h
  refine ⟨?_, h2, h3, h4, h5⟩
  cases hq : Sp.nameVal l with
  | none => rfl
  | some k => rw [hq] at h1; cases h1

theorem stmt_not_begins (A : Alg) (n o : Nat) {l : Bs} (h : fBegins l = false) : Sp.pStmt A n o l = .error (2, l.length) := by
  obtain ⟨h1, h2, h3, h4, h5⟩ := not_begins h
  cases n with
  | zero => rfl
  | succ n =>
    unfold Sp.pStmt
    rw [if_neg h2, if_neg h3, if_neg h4, if_neg h5]
    unfold Sp.pAssign
    rw [pName_none h1]

def fMany (A : Alg) (st : Bs → R A.T) : Nat → List A.T → Bs → R (List A.T)
  | 0, acc, l => .ok (acc, l)
  | m + 1, acc, l => if fBegins l = true then (match st l with
      | .ok (x, l1) => fMany A st m (acc ++ [x]) l1
      | .error e => .error e) else .ok (acc, l)

def manyEnd {α : Type} : R α → R α
  | .ok (x, l) => if Sp.tokKind l = 2 then .error (2, l.length) else .ok (x, l)
  | .error e => .error e

theorem many_eq (A : Alg) (st : Bs → R A.T) (hst : ∀ l, fBegins l = false → st l = .error (2, l.length)) (hdec : ∀ l x l1, st l = .ok (x, l1) → l1.length < l.length) : ∀ (m : Nat) (acc : List A.T) (l : Bs), l.length < m → Sp.pMany A st m acc l = manyEnd (fMany A st m acc l)
  | 0, _, _, h => absurd h (Nat.not_lt_zero _)
  | m + 1, acc, l, h => by
    unfold Sp.pMany fMany
    by_cases hb : fBegins l = true
    · rw [if_pos hb, if_pos (begins_word hb)]
      cases hs : st l with
      | error e => rfl
      | ok xl =>
        have := hdec l xl.1 xl.2 hs
        exact many_eq A st hst hdec m _ _ (by omega)
    · have hb' : fBegins l = false := by simpa using hb
      rw [if_neg hb]
      unfold manyEnd
      by_cases hk : Sp.tokKind l = 2
      · rw [if_pos hk, hst l hb']; simp only [hk, if_true]
      · rw [if_neg hk]; simp only [hk, if_false]

theorem word_ne {l : Bs} {c : UInt8} {r : Bs} (h : Sp.tokKind l = 2) (hc : Sp.isLet c = false) : Sp.tok l ≠ c :: r := by
  intro e
  cases l with
  | nil => simp [Sp.tok] at e
  | cons d q =>
    have ed : d = c := by
      unfold Sp.tok at e
      cases hn : Sp.tokLen (d :: q) with
      | zero => rw [hn] at e; simp at e
      | succ m => rw [hn, List.take_succ_cons] at e; exact (List.cons.inj e).1
    subst ed
    rw [Sp.tokKind_cons, if_neg (by rw [hc]; simp)] at h
    split at h
    · omega
    · split at h <;> omega

/-- a block, as the document's answer reads it -/
def fBlock (A : Alg) (st : Bs → R A.T) (o : Nat) (l : Bs) : R (List A.T) := match Sp.enter [123] o l with
  | .ok l1 => (match fMany A st (l1.length + 1) [] l1 with
    | .ok (xs, l2) => (match Sp.take [125] l2 with
      | .ok l3 => .ok (xs, l3)
      | .error e => .error e)
    | .error e => .error e)
  | .error e => .error e

theorem block_eq (A : Alg) (st : Bs → R A.T) (hst : ∀ l, fBegins l = false → st l = .error (2, l.length)) (hdec : ∀ l x l1, st l = .ok (x, l1) → l1.length < l.length) (o : Nat) (l : Bs) : Sp.pBlock A st o l = fBlock A st o l := by
  unfold Sp.pBlock fBlock
  cases Sp.enter [123] o l with
  | error e => rfl
  | ok l1 =>
    simp only
    rw [many_eq A st hst hdec _ _ _ (by omega)]
    cases fMany A st (l1.length + 1) [] l1 with
    | error e => rfl
    | ok xl =>
      obtain ⟨xs, l2⟩ := xl
      simp only [manyEnd]
      by_cases hk : Sp.tokKind l2 = 2
      · rw [if_pos hk]
        unfold Sp.take
        rw [if_neg (word_ne hk rfl)]; rfl
      · rw [if_neg hk]; rfl

theorem prog_eq (A : Alg) (l : Bs) : Sp.pProg A l = (match fMany A (Sp.pStmt A (l.length + 1) 0) (l.length + 1) [] l with
    | .ok (xs, l1) => if l1 = [] then .ok xs else Sp.bad 2 l1
    | .error e => .error e) := by
  unfold Sp.pProg
  rw [many_eq A _ (fun l h => stmt_not_begins A _ _ h) (fun l x l1 h => Sp.pStmt_lt _ _ _ _ _ h) _ _ _ (by omega)]
  cases fMany A (Sp.pStmt A (l.length + 1) 0) (l.length + 1) [] l with
  | error e => rfl
  | ok xl =>
    obtain ⟨xs, l2⟩ := xl
    simp only [manyEnd]
    by_cases hk : Sp.tokKind l2 = 2
    · rw [if_pos hk]
      have : l2 ≠ [] := by intro e; subst e; simp [Sp.tokKind] at hk
      rw [if_neg this]; rfl
    · rw [if_neg hk]

end Go.Proofs.YtiopfihjmkfdmaaGreatDoor
