/- THE DOCUMENT'S ANSWER: statements. -/
import Derived.Test.YtiopfihjmkfdmaaGreatDoorGFCond
import Derived.Deep.Cut
namespace Go.Proofs.YtiopfihjmkfdmaaGreatDoor
open Go.RowKit
open Sp (Sm Bl Ct Tr)
set_option maxRecDepth 100000
set_option maxHeartbeats 8000000

/-- a statement at node j, whatever stands behind it -/
def FSt (j hi : Nat) (ns : List FNode) (d : FNode) (ct : Ct) (f : Bl → Bl) (ct1 : Ct) : Prop :=
  ∀ (ns' : List FNode) (q : Int) (rest : Bl) (ct' : Ct) (lo hi' : Nat), lo ≤ j → hi ≤ hi' → (∀ i, j < i → i < hi → ns'[i]? = ns[i]?) → ns'[j]? = some { d with next := q } → FBl ns' lo hi' rest q ct1 ct' → FBl ns' lo hi' (f rest) (j : Int) ct ct'

def FGotT (p p' : FP) (l : Sp.Bs) : Sp.R (Bl → Bl) → Prop
  | .ok (f, l') => FMade p p' l l' ∧ (∃ d, p'.ns[p.ns.length]? = some d ∧ d.next = -1 ∧ FSt p.ns.length p'.ns.length p'.ns d p.ct f p'.ct) ∧ ∃ qf, p'.qs = p.qs ++ qf ∧ ∀ rest, numsB (f rest) = qf ++ numsB rest
  | .error _ => FBad p p' l

def FPostT (base b pb : Nat) (s : ByteArray) (o : Nat) (p : FP) (l : Sp.Bs) (w : World) (r : Sp.R (Bl → Bl)) (e : Ending) (w' : World) : Prop :=
  ∃ (p' : FP), e = .returned (.int .i64 (p.ns.length : Nat)) ∧ FX base b pb s (left r) (o : Int) p' w' ∧ FK b pb p p' w w' ∧ FGotT p p' l r

/-- the function that reads a statement -/
def FReadsT (base b pb : Nat) (s : ByteArray) (o n : Nat) (st : Sp.Bs → Sp.R (Bl → Bl)) : Prop :=
  ∀ (l : Sp.Bs) (p : FP) (w : World), l.length < n → FR base b pb s l (o : Int) p w → FLim p l → fBegins l = true → Calls Tryz.prog 99 #[.pointer (some ⟨b, 0, none⟩)] w (FPostT base b pb s o p l w (st l))

def onto (fs : List (Bl → Bl)) (rest : Bl) : Bl := fs.foldr (fun f x => f x) rest
theorem onto_nil (fs : List (Bl → Bl)) : onto fs .nil = Sp.joinB fs := rfl
theorem onto_snoc (fs : List (Bl → Bl)) (f : Bl → Bl) (rest : Bl) : onto (fs ++ [f]) rest = onto fs (f rest) := by
  unfold onto; rw [List.foldr_append]; rfl

def FGotB (p p' : FP) (l : Sp.Bs) (k : Int) : Sp.R (List (Bl → Bl)) → Prop
  | .ok (fs, l') => FMade p p' l l' ∧ FBl p'.ns p.ns.length p'.ns.length (Sp.joinB fs) k p.ct p'.ct ∧ p'.qs = p.qs ++ numsB (Sp.joinB fs)
  | .error _ => FBad p p' l

def FPostB (base b pb : Nat) (s : ByteArray) (o : Nat) (p : FP) (l : Sp.Bs) (w : World) (r : Sp.R (List (Bl → Bl))) (e : Ending) (w' : World) : Prop :=
  ∃ (k : Int) (p' : FP), e = .returned (.int .i64 k) ∧ FX base b pb s (left r) (o : Int) p' w' ∧ FK b pb p p' w w' ∧ FGotB p p' l k r

/-- the loop's state: the first statement's node and the last one's -/
def SGot (p pc : FP) (l : Sp.Bs) (first last : Int) : Sp.R (List (Bl → Bl)) → Prop
  | .error _ => FBad p pc l
  | .ok (fs, lc) => FMade p pc l lc ∧ (∃ qf, pc.qs = p.qs ++ qf ∧ ∀ rest, numsB (onto fs rest) = qf ++ numsB rest) ∧
      ((fs = [] ∧ first = -1 ∧ last = -1 ∧ pc.ns.length = p.ns.length ∧ pc.ct = p.ct) ∨
       (first = (p.ns.length : Int) ∧ ∃ (j : Nat) (d : FNode), last = (j : Int) ∧ p.ns.length ≤ j ∧ j < pc.ns.length ∧ pc.ns[j]? = some d ∧ d.next = -1 ∧
        ∀ (ns' : List FNode) (q : Int) (rest : Bl) (ct' : Ct) (hi' : Nat), pc.ns.length ≤ hi' → (∀ i, p.ns.length ≤ i → i < pc.ns.length → i ≠ j → ns'[i]? = pc.ns[i]?) → ns'[j]? = some { d with next := q } → FBl ns' p.ns.length hi' rest q pc.ct ct' → FBl ns' p.ns.length hi' (onto fs rest) (p.ns.length : Int) p.ct ct'))

def SChain (st : Sp.Bs → Sp.R (Bl → Bl)) (fin : Sp.R (List (Bl → Bl))) : Sp.R (List (Bl → Bl)) → Prop
  | .ok (fs, l) => ∃ m, l.length < m ∧ fin = fMany Tr st m fs l
  | .error e => fin = .error e

def fnextOf (fs : List (Bl → Bl)) : Sp.R (Bl → Bl) → Sp.R (List (Bl → Bl))
  | .ok (f, l) => .ok (fs ++ [f], l)
  | .error e => .error e

theorem fMany_stop (A : Sp.Alg) (st : Sp.Bs → Sp.R A.T) (m : Nat) (fs : List A.T) (l : Sp.Bs) (hb : fBegins l = false) : fMany A st (m + 1) fs l = .ok (fs, l) := by
  rw [fMany, if_neg (by rw [hb]; simp)]

theorem schain_stop {st : Sp.Bs → Sp.R (Bl → Bl)} {fin : Sp.R (List (Bl → Bl))} {fs : List (Bl → Bl)} {l : Sp.Bs} (h : SChain st fin (.ok (fs, l))) (hb : fBegins l = false) : fin = .ok (fs, l) := by
  obtain ⟨m, hm, e⟩ := h
  cases m with
  | zero => omega
  | succ m => rw [e]; exact fMany_stop Tr st m fs l hb

theorem fMany_gen (A : Sp.Alg) (st : Sp.Bs → Sp.R A.T) (m : Nat) (fs : List A.T) (l : Sp.Bs) (hb : fBegins l = true) : fMany A st (m + 1) fs l = (match st l with
    | .ok (x, l1) => fMany A st m (fs ++ [x]) l1
    | .error e => .error e) := by
  rw [fMany, if_pos hb]; rfl

theorem fMany_ok (A : Sp.Alg) (st : Sp.Bs → Sp.R A.T) (m : Nat) (fs : List A.T) (l : Sp.Bs) (hb : fBegins l = true) {f : A.T} {l1 : Sp.Bs} (h : st l = .ok (f, l1)) : fMany A st (m + 1) fs l = fMany A st m (fs ++ [f]) l1 := by
  rw [fMany_gen A st m fs l hb, h]
theorem fMany_error (A : Sp.Alg) (st : Sp.Bs → Sp.R A.T) (m : Nat) (fs : List A.T) (l : Sp.Bs) (hb : fBegins l = true) {e : Nat × Nat} (h : st l = .error e) : fMany A st (m + 1) fs l = .error e := by
  rw [fMany_gen A st m fs l hb, h]

theorem schain_next {st : Sp.Bs → Sp.R (Bl → Bl)} {fin : Sp.R (List (Bl → Bl))} {fs : List (Bl → Bl)} {l : Sp.Bs} (h : SChain st fin (.ok (fs, l))) (hb : fBegins l = true) (hdec : ∀ l f l1, st l = .ok (f, l1) → l1.length < l.length) : SChain st fin (fnextOf fs (st l)) := by
  obtain ⟨m, hm, e⟩ := h
  cases m with
  | zero => omega
  | succ m =>
    rcases hs : st l with er | ⟨f, l1⟩
    · show fin = _
      rw [e]; exact fMany_error Tr st m fs l hb hs
    · have := hdec _ _ _ hs
      exact ⟨m, by omega, by rw [e]; exact fMany_ok Tr st m fs l hb hs⟩

/-- a statement more, the first -/
theorem sgot_first {p pc p' : FP} {l lc : Sp.Bs} {fs : List (Bl → Bl)} {first last : Int} {r : Sp.R (Bl → Bl)} (h : SGot p pc l first last (.ok (fs, lc))) (hf : first < 0) (g : FGotT pc p' lc r) : SGot p p' l (pc.ns.length : Int) (pc.ns.length : Int) (fnextOf fs r) := by
  obtain ⟨m1, ⟨qf, hq, hn⟩, hc⟩ := h
  rcases hc with ⟨rfl, _, _, hlen, hct⟩ | ⟨h1, _⟩
  · rcases r with e | ⟨f, l1⟩
    · exact FBad.made m1 g
    · obtain ⟨m2, ⟨d, hd, hdn, hst⟩, qf2, hq2, hn2⟩ := g
      refine ⟨m1.trans m2, ⟨qf ++ qf2, by rw [hq2, hq, List.append_assoc], fun rest => ?_⟩, .inr ⟨by rw [hlen], pc.ns.length, d, rfl, by omega, ?_, hd, hdn, ?_⟩⟩
      · rw [onto_snoc]
        have e1 := hn (f rest)
        rw [e1, hn2, List.append_assoc]
      · exact (List.getElem?_eq_some_iff.1 hd).1
      · intro ns' q rest ct' hi' hhi hag hq' hb
        have := hst ns' q rest ct' p.ns.length hi' (by omega) hhi (fun i h1 h2 => hag i (by omega) h2 (by omega)) hq' hb
        rw [hct, hlen] at this
        exact this
  · omega

/-- a statement more, behind another -/
theorem sgot_next {p pc p' : FP} {l lc : Sp.Bs} {fs : List (Bl → Bl)} {first : Int} {j : Nat} {dl : FNode} {r : Sp.R (Bl → Bl)} (h : SGot p pc l first (j : Int) (.ok (fs, lc))) (hf : ¬ first < 0) (g : FGotT pc p' lc r) (hdl : p'.ns[j]? = some dl) :
    SGot p { p' with ns := p'.ns.set j { dl with next := (pc.ns.length : Int) } } l first (pc.ns.length : Int) (fnextOf fs r) := by
  obtain ⟨m1, ⟨qf, hq, hn⟩, hc⟩ := h
  rcases hc with ⟨_, h1, _⟩ | ⟨h1, j', d, hj, hj1, hj2, hd, hdn, hall⟩
  · omega
  · have ej : j' = j := by omega
    subst ej
    rcases r with e | ⟨f, l1⟩
    · obtain ⟨⟨ex, hex⟩, g2⟩ := FBad.made m1 g
      refine ⟨⟨ex.set (j' - p.ns.length) { dl with next := (pc.ns.length : Int) }, ?_⟩, by simpa using g2⟩
      show p'.ns.set j' _ = _
      rw [hex, List.set_append_right _ _ hj1]
    · obtain ⟨m2, ⟨d2, hd2, hdn2, hst⟩, qf2, hq2, hn2⟩ := g
      have hlt2 := (List.getElem?_eq_some_iff.1 hd2).1
      have edl : dl = d := by
        rw [m2.at hj2, hd] at hdl
        exact (Option.some.inj hdl).symm
      subst edl
      have hm := m1.trans m2
      refine ⟨⟨?_, by simpa using hm.nl, hm.ql, hm.pt⟩, ⟨qf ++ qf2, by show p'.qs = _; rw [hq2, hq, List.append_assoc], fun rest => ?_⟩, .inr ⟨h1, pc.ns.length, d2, rfl, by have := m1.len; omega, by simpa using hlt2, ?_, hdn2, ?_⟩⟩
      · obtain ⟨ex, hex⟩ := hm.pre
        refine ⟨ex.set (j' - p.ns.length) { dl with next := (pc.ns.length : Int) }, ?_⟩
        show p'.ns.set j' _ = _
        rw [hex, List.set_append_right _ _ hj1]
      · rw [onto_snoc, hn, hn2, List.append_assoc]
      · show (p'.ns.set j' _)[pc.ns.length]? = _
        rw [List.getElem?_set_ne (by omega)]; exact hd2
      · intro ns' q rest ct' hi' hhi hag hq' hb
        have hhi' : p'.ns.length ≤ hi' := by simpa using hhi
        have hag' : ∀ i, p.ns.length ≤ i → i < p'.ns.length → i ≠ pc.ns.length → ns'[i]? = (p'.ns.set j' { dl with next := (pc.ns.length : Int) })[i]? := fun i h1 h2 h3 => hag i h1 (by simpa using h2) h3
        have h2 := hst ns' q rest ct' p.ns.length hi' m1.len hhi' (fun i h1 h2 => by rw [hag' i (by have := m1.len; omega) h2 (by omega), List.getElem?_set_ne (by omega)]) hq' hb
        have := hall ns' (pc.ns.length : Int) (f rest) ct' hi' (by omega) (fun i h1 h2 h3 => by
          rw [hag' i h1 (by omega) (by omega), List.getElem?_set_ne (by omega)]
          exact m2.at h2) (by rw [hag' j' hj1 (by omega) (by omega), List.getElem?_set_self (by omega)]) h2
        rw [onto_snoc]
        exact this

/-- at the end -/
theorem sgot_end {p pc : FP} {l : Sp.Bs} {first last : Int} {r : Sp.R (List (Bl → Bl))} (h : SGot p pc l first last r) : FGotB p pc l first r := by
  rcases r with e | ⟨fs, lc⟩
  · exact h
  · obtain ⟨m1, ⟨qf, hq, hn⟩, hc⟩ := h
    have hqs : pc.qs = p.qs ++ numsB (Sp.joinB fs) := by
      have := hn .nil
      rw [onto_nil] at this
      rw [this, hq]; simp [numsB]
    rcases hc with ⟨rfl, h1, _, _, hct⟩ | ⟨h1, j, d, _, hj1, hj2, hd, hdn, hall⟩
    · exact ⟨m1, ⟨h1, hct⟩, hqs⟩
    · refine ⟨m1, ?_, hqs⟩
      have := hall pc.ns (-1) .nil pc.ct pc.ns.length (Nat.le_refl _) (fun _ _ _ _ => rfl) (by rw [hd, ← hdn]) ⟨rfl, rfl⟩
      rw [h1]
      exact this

end Go.Proofs.YtiopfihjmkfdmaaGreatDoor

/- THE DOCUMENT'S ANSWER: statements, block. -/
namespace Go.Proofs.YtiopfihjmkfdmaaGreatDoor
open Go.RowKit
open Sp (Sm Bl Ct Tr)
set_option maxRecDepth 100000
set_option maxHeartbeats 8000000

theorem statements_idle (base b pb : Nat) (s : ByteArray) : FIdle 66 base b pb s (-1) := by
  intro er p w h
  obtain ⟨q, t, c6, hz, hz2, c3⟩ := h.asks
  go_enter Tryz.func66, Tryz.ntmps66
  go_wp2_with fail
  go_loopw [3, 4] (fun a c wr => a = .int .i64 (-1) ∧ c = .int .i64 (-1) ∧ wr = w) (fun _ _ _ => 0)
  case atStart => exact ⟨rfl, rfl, rfl⟩
  case round =>
    obtain ⟨rfl, rfl, rfl⟩ := hrel
    go_wp2_with fail
    go_ret
    exact ⟨rfl, rfl⟩

def SCur (base b pb : Nat) (s : ByteArray) (o : Nat) (p : FP) (l : Sp.Bs) (w : World) (st : Sp.Bs → Sp.R (Bl → Bl)) (fin : Sp.R (List (Bl → Bl))) (first last : Int) (wr : World) : Prop :=
  ∃ (cur : Sp.R (List (Bl → Bl))) (pc : FP), FX base b pb s (left cur) (o : Int) pc wr ∧ FK b pb p pc w wr ∧ SGot p pc l first last cur ∧ SChain st fin cur

theorem next_left {base b pb : Nat} {s : ByteArray} {fs : List (Bl → Bl)} {r : Sp.R (Bl → Bl)} {o : Int} {p : FP} {w : World} (h : FX base b pb s (left r) o p w) : FX base b pb s (left (fnextOf fs r)) o p w := by
  rcases r with e | ⟨y, l⟩ <;> exact h

theorem fstatements_calls (base b pb : Nat) (s : ByteArray) (o n : Nat) (st : Sp.Bs → Sp.R (Bl → Bl)) (hdec : ∀ l f l1, st l = .ok (f, l1) → l1.length < l.length) (hr : FReadsT base b pb s o n st)
    (l : Sp.Bs) (p : FP) (w : World) (hl : l.length < n) (h : FR base b pb s l (o : Int) p w) (hlim : FLim p l) (m : Nat) (hm : l.length < m) :
    Calls Tryz.prog 66 #[.pointer (some ⟨b, 0, none⟩)] w (FPostB base b pb s o p l w (fMany Tr st m [] l)) := by
  have HR : Hid (FReadsT base b pb s o n st) := hr
  have HD : Hid (∀ l f l1, st l = .ok (f, l1) → l1.length < l.length) := hdec
  have HC : Hid (SCur base b pb s o p l w st (fMany Tr st m [] l) (-1) (-1) w) := ⟨.ok ([], l), p, h, FK.refl _ _ _ _, ⟨FMade.eat (Nat.le_refl _), ⟨[], by simp, fun rest => rfl⟩, .inl ⟨rfl, rfl, rfl, rfl, rfl⟩⟩, ⟨m, hm, rfl⟩⟩
  clear hr hdec h
  go_enter Tryz.func66, Tryz.ntmps66
  go_wp2_with fail
  go_loopw [3, 4] (fun a c wr => ∃ fi la : Int, a = .int .i64 fi ∧ c = .int .i64 la ∧ Hid (SCur base b pb s o p l w st (fMany Tr st m [] l) fi la wr)) (fun _ _ wr => fRest b s wr)
  case atStart => exact ⟨-1, -1, rfl, rfl, HC⟩
  case round =>
    obtain ⟨fi, la, rfl, rfl, hcur⟩ := hrel
    obtain ⟨cur, pc, hx, hk, hg, hch⟩ := hcur.out
    rcases cur with er | ⟨fs, lc⟩
    · obtain ⟨q, t, c6, hz, hz2, c3⟩ := FE.asks (show FE base b pb s er pc wr from hx)
      have HF : Hid (FPostB base b pb s o p l w (fMany Tr st m [] l) (.returned (.int .i64 fi)) wr) := by
        unfold Hid; rw [show fMany Tr st m [] l = .error er from hch]; exact ⟨fi, pc, rfl, hx, hk, sgot_end hg⟩
      clear hx hk hg hch hcur HC
      go_wp2_with fail
      go_ret
      exact HF.out
    · have hfr : FR base b pb s lc (o : Int) pc wr := hx
      obtain ⟨c6, c3, hsz, hl4⟩ := hfr.asks
      have HN : Hid (∀ w, Calls Tryz.prog 98 #[.string ⟨(Sp.tok lc).toArray⟩] w fun e w' => e = .returned (.bool (fBegins lc)) ∧ w' = w) := fBegins_calls lc hl4
      cases hbg : fBegins lc with
      | false =>
        have HF : Hid (FPostB base b pb s o p l w (fMany Tr st m [] l) (.returned (.int .i64 fi)) wr) := by
          unfold Hid; rw [schain_stop hch hbg]; exact ⟨fi, pc, rfl, hx, hk, sgot_end hg⟩
        rw [hbg] at HN
        generalize (⟨(Sp.tok lc).toArray⟩ : ByteArray) = t at *
        clear hx hk hg hch hcur HC hfr hbg
        go_wp2_with fail
        refine (HN.out _).mono ?_
        rintro e w1 ⟨rfl, rfl⟩
        go_wp2_with fail
        go_ret
        exact HF.out
      | true =>
        rw [hbg] at HN
        have hlc : lc.length ≤ l.length := by have := hg.1.nl; have := hg.1.len; omega
        have HL : Hid (FLim pc lc) := hg.1.lim hlim
        have HW : Hid (fRest b s wr = lc.length + 1) := hfr.rest
        have HG : Hid (SGot p pc l fi la (.ok (fs, lc)) ∧ fBegins lc = true ∧ SChain st (fMany Tr st m [] l) (fnextOf fs (st lc)) ∧ FK b pb p pc w wr) := ⟨hg, hbg, schain_next hch hbg HD.out, hk⟩
        have hdrop : ∀ {first last : Int} {p' : FP} {w' : World}, FX base b pb s (left (fnextOf fs (st lc))) (o : Int) p' w' → fRest b s w' ≤ lc.length := fun hf => hf.rest_le (fun fs' l' e => by
          rcases hs : st lc with er | ⟨f, l1⟩
          · rw [hs] at e; cases e
          · rw [hs] at e; cases e; exact HD.out _ _ _ hs)
        have HDR : Hid (∀ {p' : FP} {w' : World}, FX base b pb s (left (fnextOf fs (st lc))) (o : Int) p' w' → fRest b s w' ≤ lc.length) := fun hf => hdrop (first := 0) (last := 0) hf
        generalize (⟨(Sp.tok lc).toArray⟩ : ByteArray) = t at *
        clear hx hk hg hch hcur HC hbg hdrop
        by_cases hfi : fi < 0
        · go_wp2_with fail
          refine (HN.out _).mono ?_
          rintro e w1 ⟨rfl, rfl⟩
          go_wp2_with fail
          refine (HR.out lc pc _ (by omega) hfr HL.out HG.out.2.1).mono ?_
          rintro e w2 ⟨p', rfl, h2, k2, g2⟩
          have HC2 : Hid (SCur base b pb s o p l w st (fMany Tr st m [] l) (pc.ns.length : Nat) (pc.ns.length : Nat) w2 ∧ fRest b s w2 ≤ lc.length) := ⟨⟨_, p', next_left h2, HG.out.2.2.2.trans k2, sgot_first HG.out.1 hfi g2, HG.out.2.2.1⟩, HDR.out (next_left h2)⟩
          clear h2 k2 g2
          go_wp2_with fail
          exact ⟨⟨_, _, rfl, rfl, HC2.out.1⟩, by rw [HW.out]; have := HC2.out.2; omega⟩
        · obtain ⟨j, hj, hjlt⟩ : ∃ j : Nat, la = (j : Int) ∧ j < pc.ns.length := by
            obtain ⟨_, _, hc⟩ := HG.out.1
            rcases hc with ⟨_, h1, _⟩ | ⟨_, j, d, e1, _, e2, _⟩
            · omega
            · exact ⟨j, e1, e2⟩
          subst hj
          go_wp2_with fail
          refine (HN.out _).mono ?_
          rintro e w1 ⟨rfl, rfl⟩
          go_wp2_with fail
          refine (HR.out lc pc _ (by omega) hfr HL.out HG.out.2.1).mono ?_
          rintro e w2 ⟨p', rfl, h2, k2, g2⟩
          have hlen : pc.ns.length ≤ p'.ns.length := by
            rcases hs : st lc with er | ⟨f, l1⟩
            · rw [hs] at g2; exact FBad.len g2
            · rw [hs] at g2; exact g2.1.len
          have hlt' : j < p'.ns.length := by omega
          obtain ⟨dl, hdl⟩ : ∃ dl, p'.ns[j]? = some dl := ⟨_, List.getElem?_eq_getElem hlt'⟩
          obtain ⟨g, cap, hv, hcap, hmax⟩ := h2.prog.slice (by omega)
          obtain ⟨i', a', t', o', er', hb'⟩ := h2.rdr
          have d4 := cell_of hb' 4 (v := .pointer (some ⟨pb, 0, none⟩)) rfl
          have d0 := cell_of h2.prog.blk 0 (v := p'.nv) rfl
          rw [hv] at d0
          obtain ⟨e5, f5⟩ := h2.prog.cells (c := 5) (u := .int .i64 dl.next) hv hdl (by omega) rfl
          obtain ⟨h3, k3⟩ := h2.set_node (c := 5) (u := .int .i64 (pc.ns.length : Nat)) (d' := { dl with next := (pc.ns.length : Int) }) hv hdl (by omega) rfl
          have HC2 : Hid (SCur base b pb s o p l w st (fMany Tr st m [] l) fi (pc.ns.length : Nat) (w2.setCell ⟨g, j * 10 + 5, none⟩ (.int .i64 (pc.ns.length : Nat))) ∧ fRest b s (w2.setCell ⟨g, j * 10 + 5, none⟩ (.int .i64 (pc.ns.length : Nat))) ≤ lc.length) := ⟨⟨_, _, next_left h3, (HG.out.2.2.2.trans k2).trans k3, sgot_next HG.out.1 (by omega) g2 hdl, HG.out.2.2.1⟩, HDR.out (next_left h3)⟩
          have h5 : p'.ns.length ≤ 1000000 := h2.prog.n5
          clear h2 k2 g2 h3 k3 hb'
          go_wp2_with fail
          exact ⟨⟨_, _, rfl, rfl, HC2.out.1⟩, by rw [HW.out]; have := HC2.out.2; omega⟩

/-- statements, in either mode -/
theorem statements_fx {base b pb : Nat} {s : ByteArray} {o n : Nat} {st : Sp.Bs → Sp.R (Bl → Bl)} (hdec : ∀ l f l1, st l = .ok (f, l1) → l1.length < l.length) {r : Except (Nat × Nat) Sp.Bs} {p : FP} {w : World} (hr : ∀ l, r = .ok l → FReadsT base b pb s o n st ∧ l.length < n ∧ FLim p l) (h : FX base b pb s r (o : Int) p w) :
    Calls Tryz.prog 66 #[.pointer (some ⟨b, 0, none⟩)] w fun e w' => ∃ (k : Int) (p' : FP), e = .returned (.int .i64 k) ∧ FX base b pb s (r.bind fun l => left (fMany Tr st (l.length + 1) [] l)) (o : Int) p' w' ∧ FK b pb p p' w w' ∧ (∀ l, r = .ok l → FGotB p p' l k (fMany Tr st (l.length + 1) [] l)) ∧ (∀ e, r = .error e → p' = p) := by
  cases r with
  | ok l =>
    obtain ⟨h1, h2, h3⟩ := hr l rfl
    refine (fstatements_calls base b pb s o n st hdec h1 l p w h2 h h3 (l.length + 1) (by omega)).mono ?_
    rintro e w' ⟨k, p', rfl, h1, k1, g1⟩
    exact ⟨k, p', rfl, h1, k1, fun l' hl => by cases hl; exact g1, fun _ hl => nomatch hl⟩
  | error e =>
    refine (statements_idle base b pb s e p w h).mono ?_
    rintro e' w' ⟨rfl, rfl⟩
    exact ⟨-1, p, rfl, h, FK.refl _ _ _ _, (fun _ hl => nomatch hl), fun _ _ => rfl⟩

/-- a block, in either mode -/
theorem block_fx {base b pb : Nat} {s : ByteArray} {o n : Nat} (ho : o ≤ 12) {st : Sp.Bs → Sp.R (Bl → Bl)} (hdec : ∀ l f l1, st l = .ok (f, l1) → l1.length < l.length) {r : Except (Nat × Nat) Sp.Bs} {p : FP} {w : World} (hr : o < 12 → FReadsT base b pb s (o + 1) n st) (hl : ∀ l, r = .ok l → l.length < n + 1 ∧ FLim p l) (h : FX base b pb s r (o : Int) p w) :
    Calls Tryz.prog 134 #[.pointer (some ⟨b, 0, none⟩)] w fun e w' => ∃ (k : Int) (p' : FP), e = .returned (.int .i64 k) ∧ FX base b pb s (r.bind fun l => left (fBlock Tr st o l)) (o : Int) p' w' ∧ FK b pb p p' w w' ∧ (∀ l, r = .ok l → FGotB p p' l k (fBlock Tr st o l)) ∧ (∀ e, r = .error e → p' = p) := by
  have H : Hid (FX base b pb s r (o : Int) p w) := h
  have HR : Hid (o < 12 → FReadsT base b pb s (o + 1) n st) := hr
  have HD : Hid (∀ l f l1, st l = .ok (f, l1) → l1.length < l.length) := hdec
  have HL : Hid (∀ l1, r.bind (Sp.enter [123] o) = .ok l1 → ∃ l, r = .ok l ∧ Sp.enter [123] o l = .ok l1 ∧ l1.length < n ∧ FLim p l1 ∧ l1.length < l.length ∧ o < 12) := by
    intro l1 e
    rcases r with er | l
    · cases e
    · have e' : Sp.enter [123] o l = .ok l1 := e
      obtain ⟨ht, h12, rfl⟩ := Sp.enter_ok_iff e'
      have := Sp.next_lt_of_tok ht (by simp)
      obtain ⟨a1, a2⟩ := hl l rfl
      exact ⟨l, rfl, e', by omega, (FMade.eat (by omega)).lim a2, this, by omega⟩
  clear h hr hdec hl
  go_enter Tryz.func134, Tryz.ntmps134
  go_wp2_with fail
  refine (open_fx ho H.out [123]).mono ?_
  rintro e w1 ⟨rfl, h1, k1⟩
  go_wp2_with fail
  refine (statements_fx HD.out (n := n) (fun l1 e1 => by
    obtain ⟨l, _, _, a3, a4, _, a6⟩ := HL.out l1 e1
    exact ⟨HR.out a6, a3, a4⟩) h1).mono ?_
  rintro e w2 ⟨k, p', rfl, h2, k2, g2, e2⟩
  have G2 : Hid (_ ∧ _) := And.intro g2 e2
  clear g2 e2
  go_wp2_with fail
  refine (shut_fx (by omega) h2 [125]).mono ?_
  rintro e w3 ⟨rfl, h3, k3⟩
  go_wp2_with fail
  go_ret
  refine ⟨k, p', rfl, ?_, (k1.trans k2).trans k3, ?_, ?_⟩
  · rcases r with er | l
    · exact h3
    · have h3' : FX base b pb s (((Sp.enter [123] o l).bind fun l => left (fMany Tr st (l.length + 1) [] l)).bind (Sp.take [125])) (o : Int) p' w3 := h3
      show FX base b pb s (left (fBlock Tr st o l)) (o : Int) p' w3
      unfold fBlock
      cases he : Sp.enter [123] o l with
      | error e => rw [he] at h3'; exact h3'
      | ok l1 =>
        rw [he] at h3'
        simp only [Except.bind] at h3' ⊢
        rcases hm : fMany Tr st (l1.length + 1) [] l1 with e | ⟨fs, l2⟩
        · rw [hm] at h3'; exact h3'
        · rw [hm] at h3'
          simp only [left] at h3' ⊢
          cases htk : Sp.take [125] l2 with
          | error e => rw [htk] at h3'; exact h3'
          | ok l3 => rw [htk] at h3'; exact h3'
  · intro l hr
    subst hr
    unfold fBlock
    cases he : Sp.enter [123] o l with
    | error e =>
      have := G2.out.2 e (by show Sp.enter [123] o l = _; exact he)
      subst this
      exact FBad.refl _ _
    | ok l1 =>
      obtain ⟨l', e1, _, _, _, a5, _⟩ := HL.out l1 he
      cases e1
      have g := G2.out.1 l1 he
      simp only
      rcases hm : fMany Tr st (l1.length + 1) [] l1 with e | ⟨fs, l2⟩
      · rw [hm] at g
        exact FBad.more (l1 := l1) g (by omega)
      · rw [hm] at g
        obtain ⟨m1, g2, g3⟩ := g
        have hm1 : FMade p p' l l2 := (FMade.eat (by omega)).trans m1
        simp only
        cases htk : Sp.take [125] l2 with
        | error e => exact FBad.of_made hm1
        | ok l3 =>
          obtain ⟨_, h3⟩ := Sp.take_ok_iff htk
          exact ⟨hm1.trans (FMade.eat (by rw [h3]; exact Sp.next_le _)), g2, g3⟩
  · intro e hr
    subst hr
    exact G2.out.2 e rfl

end Go.Proofs.YtiopfihjmkfdmaaGreatDoor

/- THE DOCUMENT'S ANSWER: statement, what it holds of its own. -/
namespace Go.Proofs.YtiopfihjmkfdmaaGreatDoor
open Go.RowKit
open Sp (Sm Bl Ct Tr)
set_option maxRecDepth 100000
set_option maxHeartbeats 8000000

/-- the statement's own node, in the making -/
structure FBox (b pb N : Nat) (n : FNode) (p : FP) (w : World) : Prop where
  blk : w.heap[N]? = some (.cells (fCell n).toArray 176)
  rn : p.nv.ownBlock ≠ some N
  rq : p.qv.ownBlock ≠ some N
  nb : N ≠ b
  np : N ≠ pb

theorem FBox.keep {b pb N : Nat} {n : FNode} {p p' : FP} {w w' : World} (h : FBox b pb N n p w) (k : FK b pb p p' w w') : FBox b pb N n p' w' := by
  have hlt := heap_lt h.blk
  refine ⟨by rw [k.block N hlt h.nb h.np h.rn h.rq]; exact h.blk, fun e => ?_, fun e => ?_, h.nb, h.np⟩
  · rcases k.rowN N e with e' | e'
    · exact h.rn e'
    · omega
  · rcases k.rowQ N e with e' | e'
    · exact h.rq e'
    · omega

theorem FBox.set {b pb N : Nat} {n : FNode} {p : FP} {w : World} (h : FBox b pb N n p w) (c : Nat) (u : Value) {n' : FNode} (hu : (fCell n).set c u = fCell n') : FBox b pb N n' p (w.setCell ⟨N, c, none⟩ u) := by
  refine ⟨?_, h.rn, h.rq, h.nb, h.np⟩
  rw [heap_setCell_at h.blk c u, ← hu]
  simp

theorem FX.other {base b pb N : Nat} {s : ByteArray} {r : Except (Nat × Nat) Sp.Bs} {o : Int} {n : FNode} {p : FP} {w : World} (h : FX base b pb s r o p w) (x : FBox b pb N n p w) (c : Nat) (u : Value) : FX base b pb s r o p (w.setCell ⟨N, c, none⟩ u) := by
  have hp := h.prog
  refine h.move (Below.heap_setCell _ _ _ _ (Ne.symm x.nb)) ⟨?_, ?_, ?_, hp.ge, hp.n5, hp.q5⟩
  · rw [Below.heap_setCell _ _ _ _ (Ne.symm x.np)]; exact hp.blk
  · exact ownsRow9_keep hp.rowN (fun g hg => Below.heap_setCell _ _ _ _ (fun e => x.rn (by rw [← show g = N from e]; exact hg)))
  · exact ownsRow9_keep hp.rowQ (fun g hg => Below.heap_setCell _ _ _ _ (fun e => x.rq (by rw [← show g = N from e]; exact hg)))

theorem FK.new {b pb N : Nat} {p p' : FP} {w w' : World} (h : FK b pb p p' w w') (hN : w.heap.size ≤ N) (c : Nat) (u : Value) : FK b pb p p' w (w'.setCell ⟨N, c, none⟩ u) :=
  ⟨h.os, h.tape, h.output, by have := h.size; simp [World.setCell]; omega, h.rowN, h.rowQ, fun k hk h1 h2 h3 h4 => by rw [Below.heap_setCell _ _ _ _ (fun e => by have : k = N := e; omega)]; exact h.block k hk h1 h2 h3 h4⟩

/-- all that is known in the midst of a statement -/
structure FMid (base b pb N : Nat) (s : ByteArray) (r : Except (Nat × Nat) Sp.Bs) (o : Int) (p0 p : FP) (w0 : World) (n : FNode) (w : World) : Prop where
  fx : FX base b pb s r o p w
  fk : FK b pb p0 p w0 w
  box : FBox b pb N n p w
  new : w0.heap.size ≤ N

theorem FMid.call {base b pb N : Nat} {s : ByteArray} {r r' : Except (Nat × Nat) Sp.Bs} {o o' : Int} {p0 p p' : FP} {w0 w w' : World} {n : FNode} (h : FMid base b pb N s r o p0 p w0 n w) (hx : FX base b pb s r' o' p' w') (hk : FK b pb p p' w w') : FMid base b pb N s r' o' p0 p' w0 n w' :=
  ⟨hx, h.fk.trans hk, h.box.keep hk, h.new⟩
theorem FMid.set {base b pb N : Nat} {s : ByteArray} {r : Except (Nat × Nat) Sp.Bs} {o : Int} {p0 p : FP} {w0 w : World} {n n' : FNode} (h : FMid base b pb N s r o p0 p w0 n w) (c : Nat) (u : Value) (hu : (fCell n).set c u = fCell n') : FMid base b pb N s r o p0 p w0 n' (w.setCell ⟨N, c, none⟩ u) :=
  ⟨h.fx.other h.box c u, h.fk.new h.new c u, h.box.set c u hu, h.new⟩
theorem FMid.drew {base b pb N : Nat} {s : ByteArray} {r : Except (Nat × Nat) Sp.Bs} {o : Int} {p0 p : FP} {w0 w : World} {n : FNode} (h : FMid base b pb N s r o p0 p w0 n w) : FMid base b pb N s r o p0 p w0 n w.drew :=
  ⟨h.fx.drew, h.fk.drew, ⟨h.box.blk, h.box.rn, h.box.rq, h.box.nb, h.box.np⟩, h.new⟩

/-- the own node's cells -/
theorem FBox.cell {b pb N : Nat} {n : FNode} {p : FP} {w : World} (h : FBox b pb N n p w) (c : Nat) {u : Value} (hu : (fCell n)[c]? = some u) : w.cell? ⟨N, c, none⟩ = some u ∧ w.frozen? ⟨N, c, none⟩ = false :=
  ⟨cell_of h.blk c (by simpa using hu), frozen_of h.blk c⟩

theorem FMid.start {base b pb : Nat} {s : ByteArray} {r : Except (Nat × Nat) Sp.Bs} {o : Int} {p0 p : FP} {w0 w : World} (n : FNode) (hx : FX base b pb s r o p w) (hk : FK b pb p0 p w0 w) : FMid base b pb w.heap.size s r o p0 p w0 n (w.alloc (.cells (fCell n).toArray 176)) := by
  have hB : Below w.heap.size w (w.alloc (.cells (fCell n).toArray 176)) := (Below.refl _ _).alloc (Nat.le_refl _) _
  obtain ⟨_, _, _, _, _, hb⟩ := hx.rdr
  refine ⟨hx.after hB, hk.trans (FK.of_below hB), ⟨heap_alloc_new _ _, fun e => ?_, fun e => ?_, ?_, ?_⟩, hk.size⟩
  · have := (ownsRow9_lt hx.prog.rowN _ e).2.1; omega
  · have := (ownsRow9_lt hx.prog.rowQ _ e).2.1; omega
  · have := heap_lt hb; omega
  · have := heap_lt hx.prog.blk; omega

/-- what the last step asks for -/
theorem FMid.facts {base b pb N : Nat} {s : ByteArray} {r : Except (Nat × Nat) Sp.Bs} {o : Int} {p0 p : FP} {w0 w : World} {n d : FNode} {j : Nat} (h : FMid base b pb N s r o p0 p w0 n w) (hd : p.ns[j]? = some d) :
    ∃ g cap, p.nv = .slice (some ⟨g, 0, none⟩) p.ns.length cap ∧ p.ns.length ≤ cap ∧ cap ≤ maxLen ∧ p.ns.length ≤ 1000000 ∧ j < p.ns.length ∧ w.cell? ⟨b, 4, none⟩ = some (.pointer (some ⟨pb, 0, none⟩)) ∧ w.cell? ⟨pb, 0, none⟩ = some (.slice (some ⟨g, 0, none⟩) p.ns.length cap) ∧
      (w.cell? ⟨N, 0, none⟩ = some (.int .i64 n.kind) ∧ w.cell? ⟨N, 1, none⟩ = some (.int .i64 n.a) ∧ w.cell? ⟨N, 2, none⟩ = some (.int .i64 n.b) ∧ w.cell? ⟨N, 3, none⟩ = some (.int .i64 n.c) ∧ w.cell? ⟨N, 4, none⟩ = some (.int .i64 n.n) ∧ w.cell? ⟨N, 5, none⟩ = some (.int .i64 n.next) ∧ w.cell? ⟨N, 6, none⟩ = some (.string ⟨n.sign.toArray⟩) ∧ w.cell? ⟨N, 7, none⟩ = some (.int .i64 n.site) ∧ w.cell? ⟨N, 8, none⟩ = some (.int .i64 n.point) ∧ w.cell? ⟨N, 9, none⟩ = some (.bool n.els)) ∧
      (w.cell? ⟨g, j * 10, none⟩ = some (.int .i64 d.kind) ∧ w.cell? ⟨g, j * 10 + 1, none⟩ = some (.int .i64 d.a) ∧ w.cell? ⟨g, j * 10 + 2, none⟩ = some (.int .i64 d.b) ∧ w.cell? ⟨g, j * 10 + 3, none⟩ = some (.int .i64 d.c) ∧ w.cell? ⟨g, j * 10 + 4, none⟩ = some (.int .i64 d.n) ∧ w.cell? ⟨g, j * 10 + 5, none⟩ = some (.int .i64 d.next) ∧ w.cell? ⟨g, j * 10 + 6, none⟩ = some (.string ⟨d.sign.toArray⟩) ∧ w.cell? ⟨g, j * 10 + 7, none⟩ = some (.int .i64 d.site) ∧ w.cell? ⟨g, j * 10 + 8, none⟩ = some (.int .i64 d.point) ∧ w.cell? ⟨g, j * 10 + 9, none⟩ = some (.bool d.els)) ∧
      (w.frozen? ⟨g, j * 10, none⟩ = false ∧ w.frozen? ⟨g, j * 10 + 1, none⟩ = false ∧ w.frozen? ⟨g, j * 10 + 2, none⟩ = false ∧ w.frozen? ⟨g, j * 10 + 3, none⟩ = false ∧ w.frozen? ⟨g, j * 10 + 4, none⟩ = false ∧ w.frozen? ⟨g, j * 10 + 5, none⟩ = false ∧ w.frozen? ⟨g, j * 10 + 6, none⟩ = false ∧ w.frozen? ⟨g, j * 10 + 7, none⟩ = false ∧ w.frozen? ⟨g, j * 10 + 8, none⟩ = false ∧ w.frozen? ⟨g, j * 10 + 9, none⟩ = false) := by
  have hj := (List.getElem?_eq_some_iff.1 hd).1
  have hp := h.fx.prog
  obtain ⟨g, cap, hv, h1, h2⟩ := hp.slice (by omega)
  obtain ⟨_, _, _, _, _, hb⟩ := h.fx.rdr
  have c := fun {c : Nat} {u : Value} (hc : c < 10) (hu : (fCell d)[c]? = some u) => hp.cells hv hd hc hu
  have e := fun (c : Nat) {u : Value} (hu : (fCell n)[c]? = some u) => (h.box.cell c hu).1
  refine ⟨g, cap, hv, h1, h2, hp.n5, hj, cell_of hb 4 rfl, ?_, ⟨e 0 rfl, e 1 rfl, e 2 rfl, e 3 rfl, e 4 rfl, e 5 rfl, e 6 rfl, e 7 rfl, e 8 rfl, e 9 rfl⟩, ⟨(c (c := 0) (by omega) rfl).1, (c (c := 1) (by omega) rfl).1, (c (c := 2) (by omega) rfl).1, (c (c := 3) (by omega) rfl).1, (c (c := 4) (by omega) rfl).1, (c (c := 5) (by omega) rfl).1, (c (c := 6) (by omega) rfl).1, (c (c := 7) (by omega) rfl).1, (c (c := 8) (by omega) rfl).1, (c (c := 9) (by omega) rfl).1⟩, ⟨(c (c := 0) (by omega) rfl).2, (c (c := 1) (by omega) rfl).2, (c (c := 2) (by omega) rfl).2, (c (c := 3) (by omega) rfl).2, (c (c := 4) (by omega) rfl).2, (c (c := 5) (by omega) rfl).2, (c (c := 6) (by omega) rfl).2, (c (c := 7) (by omega) rfl).2, (c (c := 8) (by omega) rfl).2, (c (c := 9) (by omega) rfl).2⟩⟩
  rw [← hv]; exact cell_of hp.blk 0 rfl

/-- a node's ten cells are written -/
def put10 (w : World) (g q : Nat) (n : FNode) : World := (((((((((w.setCell ⟨g, q, none⟩ (.int .i64 n.kind)).setCell ⟨g, q + 1, none⟩ (.int .i64 n.a)).setCell ⟨g, q + 2, none⟩ (.int .i64 n.b)).setCell ⟨g, q + 3, none⟩ (.int .i64 n.c)).setCell ⟨g, q + 4, none⟩ (.int .i64 n.n)).setCell ⟨g, q + 5, none⟩ (.int .i64 n.next)).setCell ⟨g, q + 6, none⟩ (.string ⟨n.sign.toArray⟩)).setCell ⟨g, q + 7, none⟩ (.int .i64 n.site)).setCell ⟨g, q + 8, none⟩ (.int .i64 n.point)).setCell ⟨g, q + 9, none⟩ (.bool n.els)

theorem put10_fx {base b pb : Nat} {s : ByteArray} {r : Except (Nat × Nat) Sp.Bs} {o : Int} {p : FP} {w : World} (h : FX base b pb s r o p w) {g cap j : Nat} {d : FNode} (n : FNode) (hv : p.nv = .slice (some ⟨g, 0, none⟩) p.ns.length cap) (hd : p.ns[j]? = some d) :
    FX base b pb s r o { p with ns := p.ns.set j n } (put10 w g (j * 10) n) ∧ FK b pb p { p with ns := p.ns.set j n } w (put10 w g (j * 10) n) := by
  have hj := (List.getElem?_eq_some_iff.1 hd).1
  have step : ∀ {p' : FP} {w' : World} {d1 : FNode} (c : Nat) (u : Value) (d2 : FNode), p' = { p with ns := p.ns.set j d1 } → FX base b pb s r o p' w' ∧ FK b pb p p' w w' → c < 10 → (fCell d1).set c u = fCell d2 →
      FX base b pb s r o { p with ns := p.ns.set j d2 } (w'.setCell ⟨g, j * 10 + c, none⟩ u) ∧ FK b pb p { p with ns := p.ns.set j d2 } w (w'.setCell ⟨g, j * 10 + c, none⟩ u) := by
    intro p' w' d1 c u d2 e hh hc hu
    subst e
    obtain ⟨h1, k1⟩ := hh
    obtain ⟨h2, k2⟩ := h1.set_node (j := j) (c := c) (u := u) (d := d1) (d' := d2) (by simpa using hv) (List.getElem?_set_self hj) hc hu
    simp only [List.set_set] at h2 k2
    exact ⟨h2, k1.trans k2⟩
  obtain ⟨h0, k0⟩ := h.set_node (c := 0) (u := .int .i64 n.kind) (d' := { d with kind := n.kind }) hv hd (by omega) rfl
  have s1 := step 1 (.int .i64 n.a) { d with kind := n.kind, a := n.a } rfl ⟨h0, k0⟩ (by omega) rfl
  have s2 := step 2 (.int .i64 n.b) { d with kind := n.kind, a := n.a, b := n.b } rfl s1 (by omega) rfl
  have s3 := step 3 (.int .i64 n.c) { d with kind := n.kind, a := n.a, b := n.b, c := n.c } rfl s2 (by omega) rfl
  have s4 := step 4 (.int .i64 n.n) { d with kind := n.kind, a := n.a, b := n.b, c := n.c, n := n.n } rfl s3 (by omega) rfl
  have s5 := step 5 (.int .i64 n.next) { d with kind := n.kind, a := n.a, b := n.b, c := n.c, n := n.n, next := n.next } rfl s4 (by omega) rfl
  have s6 := step 6 (.string ⟨n.sign.toArray⟩) { d with kind := n.kind, a := n.a, b := n.b, c := n.c, n := n.n, next := n.next, sign := n.sign } rfl s5 (by omega) rfl
  have s7 := step 7 (.int .i64 n.site) { n with point := d.point, els := d.els } rfl s6 (by omega) rfl
  have s8 := step 8 (.int .i64 n.point) { n with els := d.els } rfl s7 (by omega) rfl
  exact step 9 (.bool n.els) n rfl s8 (by omega) rfl

end Go.Proofs.YtiopfihjmkfdmaaGreatDoor

/- THE DOCUMENT'S ANSWER: what a statement comes to (plain). -/
namespace Go.Proofs.YtiopfihjmkfdmaaGreatDoor
open Go.RowKit
open Sp (Sm Bl Ct Tr)

theorem set_mid (xs : List FNode) (d n : FNode) (ex : List FNode) : (xs ++ [d] ++ ex).set xs.length n = xs ++ (n :: ex) := by
  rw [List.append_assoc, List.set_append_right _ _ (Nat.le_refl _)]; simp

theorem made_stmt {p p1 p3 : FP} {l l1 l2 : Sp.Bs} {d0 : FNode} (n : FNode) (e1 : p1.ns = p.ns ++ [d0]) (eq : p1.qs = p.qs) (hpt : In64 p1.ct.1) (m : FMade p1 p3 l1 l2) (hl : l1.length < l.length) : FMade p { p3 with ns := p3.ns.set p.ns.length n } l l2 := by
  obtain ⟨ex, hex⟩ := m.pre
  have h1 := m.nl
  have h2 := m.ql
  rw [e1] at h1
  rw [eq] at h2
  refine ⟨⟨n :: ex, ?_⟩, ?_, ?_, fun _ => m.pt hpt⟩
  · show p3.ns.set p.ns.length n = _
    rw [hex, e1, set_mid]
  · simp at h1 ⊢; omega
  · show p3.qs.length + _ ≤ _; omega

theorem bad_stmt {p p1 p3 : FP} {l l1 : Sp.Bs} {d0 : FNode} (n : FNode) (e1 : p1.ns = p.ns ++ [d0]) (m : FBad p1 p3 l1) (hl : l1.length < l.length) : FBad p { p3 with ns := p3.ns.set p.ns.length n } l := by
  obtain ⟨⟨ex, hex⟩, h1⟩ := m
  rw [e1] at h1
  refine ⟨⟨n :: ex, ?_⟩, ?_⟩
  · show p3.ns.set p.ns.length n = _
    rw [hex, e1, set_mid]
  · simp at h1 ⊢; omega

/-- the dummy is still there -/
theorem made_dummy {p p1 p3 : FP} {l1 l2 : Sp.Bs} {d0 : FNode} (e1 : p1.ns = p.ns ++ [d0]) (m : FMade p1 p3 l1 l2) : p3.ns[p.ns.length]? = some d0 := by
  rw [m.at (by rw [e1]; simp), e1]; simp
theorem bad_dummy {p p1 p3 : FP} {l1 : Sp.Bs} {d0 : FNode} (e1 : p1.ns = p.ns ++ [d0]) (m : FBad p1 p3 l1) : p3.ns[p.ns.length]? = some d0 := by
  obtain ⟨⟨ex, hex⟩, _⟩ := m
  rw [hex, e1]; simp

theorem got_stmt {p p1 p3 : FP} {l l1 l2 : Sp.Bs} {d0 n : FNode} {f : Bl → Bl} (e1 : p1.ns = p.ns ++ [d0]) (eq : p1.qs = p.qs) (hpt : In64 p1.ct.1) (m : FMade p1 p3 l1 l2) (hl : l1.length < l.length) (hn : n.next = -1)
    (hst : FSt p.ns.length p3.ns.length p3.ns n p.ct f p3.ct) (qf : List Int) (hq : p3.qs = p.qs ++ qf) (hqf : ∀ rest, numsB (f rest) = qf ++ numsB rest) : FGotT p { p3 with ns := p3.ns.set p.ns.length n } l (.ok (f, l2)) := by
  have hlen : p.ns.length < p3.ns.length := by have := m.len; rw [e1] at this; simp at this; omega
  refine ⟨made_stmt n e1 eq hpt m hl, ⟨n, List.getElem?_set_self hlen, hn, ?_⟩, qf, hq, hqf⟩
  intro ns' q rest ct' lo hi' h1 h2 h3 h4 h5
  have h2' : p3.ns.length ≤ hi' := by simpa using h2
  refine hst ns' q rest ct' lo hi' h1 h2' (fun i a b => ?_) h4 h5
  rw [h3 i a (by simpa using b)]
  show (p3.ns.set _ _)[i]? = _
  rw [List.getElem?_set_ne (by omega)]

/- each kind -/
theorem st_read {j hi : Nat} {ns : List FNode} {n : FNode} {ct : Ct} {v : Nat} (hj : j < hi) (h1 : n.point = ct.1) (h2 : n.kind = 7) (h3 : n.n = (v : Int)) (h4 : v < 8) : FSt j hi ns n ct (.read v) (Sp.ptUp ct) := by
  intro ns' q rest ct' lo hi' a1 a2 a3 a4 a5
  exact ⟨j, _, rfl, a1, by omega, a4, h1, h2, h3, h4, a5⟩

theorem st_assign {j hi a : Nat} {ns : List FNode} {n : FNode} {ct ct1 : Ct} {v : Nat} {x : Sm} (hj : j < hi) (h1 : n.point = ct.1) (h2 : n.kind = 6) (h3 : n.n = (v : Int)) (h4 : v < 8) (h5 : n.a = (a : Int)) (h6 : a < hi) (h7 : FSm ns (j + 1) x a (Sp.ptUp ct) ct1) : FSt j hi ns n ct (.assign v x) ct1 := by
  intro ns' q rest ct' lo hi' a1 a2 a3 a4 a5
  exact ⟨j, a, _, ct1, rfl, a1, by omega, a4, h1, h2, h3, h4, h5, by omega, h7.mono (by omega) (fun i b1 b2 => a3 i (by omega) (by omega)), a5⟩

theorem st_assert {j hi a : Nat} {ns : List FNode} {n : FNode} {ct ct1 : Ct} {rel : Nat} {x y : Sm} (hj : j < hi) (h1 : n.point = ct.1) (h2 : n.kind = 8) (h3 : n.site = ct.2) (h5 : n.a = (a : Int)) (h6 : a < hi) (h7 : FCd ns (j + 1) rel x y a (Sp.siteUp (Sp.ptUp ct)) ct1) : FSt j hi ns n ct (.assert rel x y) ct1 := by
  intro ns' q rest ct' lo hi' a1 a2 a3 a4 a5
  exact ⟨j, a, _, ct1, rfl, a1, by omega, a4, h1, h2, h3, h5, by omega, h7.mono (by omega) (fun i b1 b2 => a3 i (by omega) (by omega)), a5⟩

theorem st_loop {j hi a : Nat} {ns : List FNode} {n : FNode} {ct ct1 ct2 : Ct} {rel : Nat} {x y : Sm} {xs : Bl} (hj : j < hi) (h1 : n.point = ct.1) (h2 : n.kind = 10) (h5 : n.a = (a : Int)) (h6 : a < hi) (h7 : FCd ns (j + 1) rel x y a (Sp.ptUp ct) ct1) (h8 : FBl ns (j + 1) hi xs n.b ct1 ct2) : FSt j hi ns n ct (.loop rel x y xs) ct2 := by
  intro ns' q rest ct' lo hi' a1 a2 a3 a4 a5
  exact ⟨j, a, _, ct1, ct2, rfl, a1, by omega, a4, h1, h2, h5, by omega, h7.mono (by omega) (fun i b1 b2 => a3 i (by omega) (by omega)), h8.mono (by omega) a2 (fun i b1 b2 => a3 i (by omega) b2), a5⟩

theorem st_ite {j hi a : Nat} {ns : List FNode} {n : FNode} {ct ct1 ct2 ct3 : Ct} {rel : Nat} {x y : Sm} {xs ys : Bl} {els : Bool} (hj : j < hi) (h1 : n.point = ct.1) (h2 : n.kind = 9) (h3 : n.els = els) (h5 : n.a = (a : Int)) (h6 : a < hi) (h7 : FCd ns (j + 1) rel x y a (Sp.ptUp ct) ct1) (h8 : FBl ns (j + 1) hi xs n.b ct1 ct2) (h9 : FBl ns (j + 1) hi ys n.c ct2 ct3) (h10 : els = false → ys = .nil) : FSt j hi ns n ct (.ite rel x y xs els ys) ct3 := by
  intro ns' q rest ct' lo hi' a1 a2 a3 a4 a5
  exact ⟨j, a, _, ct1, ct2, ct3, rfl, a1, by omega, a4, h1, h2, h3, h5, by omega, h7.mono (by omega) (fun i b1 b2 => a3 i (by omega) (by omega)), h8.mono (by omega) a2 (fun i b1 b2 => a3 i (by omega) b2), h9.mono (by omega) a2 (fun i b1 b2 => a3 i (by omega) b2), h10, a5⟩

/- the document's grammar, by steps -/
theorem left_read (l : Sp.Bs) : left (Sp.pRead Tr l) = (left (Sp.pName (Sp.next l))).bind (Sp.take [59]) := by
  unfold Sp.pRead
  cases Sp.pName (Sp.next l) with
  | error e => rfl
  | ok kl =>
    simp only [left, Except.bind]
    cases Sp.take [59] kl.2 <;> rfl

theorem nameVal_lt8 {l : Sp.Bs} {k : Nat} (h : Sp.nameVal l = some k) : k < 8 := by
  obtain ⟨c, _, _, h1, h2, h3⟩ := nameVal_some h
  omega

theorem in64_wrap (n : Int) : In64 (RowKit.wrap64 n) := by unfold In64 RowKit.wrap64; omega

theorem fin_read {p p1 : FP} {l : Sp.Bs} {d0 n : FNode} {k : Int} (e1 : p1.ns = p.ns ++ [d0]) (eq : p1.qs = p.qs) (ec : p1.ct = Sp.ptUp p.ct) (hl : (Sp.next l).length < l.length) (hk : ∀ kk, Sp.nameVal (Sp.next l) = some kk → k = (kk : Int)) (n1 : n.next = -1) (n2 : n.point = p.ct.1) (n3 : n.kind = 7) (n4 : n.n = k) :
    FGotT p { p1 with ns := p1.ns.set p.ns.length n } l (Sp.pRead Tr l) := by
  have hb : FBad p { p1 with ns := p1.ns.set p.ns.length n } l := bad_stmt n e1 (FBad.refl p1 (Sp.next l)) hl
  unfold Sp.pRead
  cases hv : Sp.nameVal (Sp.next l) with
  | none => rw [pName_none hv]; exact hb
  | some kk =>
    rw [pName_some hv]
    simp only
    cases ht : Sp.take [59] (Sp.next (Sp.next l)) with
    | error e => exact hb
    | ok l2 =>
      obtain ⟨_, h2⟩ := Sp.take_ok_iff ht
      have hl2 : l2.length ≤ (Sp.next l).length := by rw [h2]; exact Nat.le_trans (Sp.next_le _) (Sp.next_le _)
      refine got_stmt (p3 := p1) (f := .read kk) e1 eq (by rw [ec]; exact in64_wrap _) (FMade.eat hl2) hl n1 ?_ [] (by rw [eq]; simp) (fun _ => rfl)
      rw [ec]
      exact st_read (by rw [e1]; simp) n2 n3 (by rw [n4, hk kk hv]) (nameVal_lt8 hv)

theorem FX.cast {base b pb : Nat} {s : ByteArray} {r r' : Except (Nat × Nat) Sp.Bs} {o : Int} {p : FP} {w : World} (e : r = r') (h : FX base b pb s r o p w) : FX base b pb s r' o p w := by rw [← e]; exact h

end Go.Proofs.YtiopfihjmkfdmaaGreatDoor

/- THE DOCUMENT'S ANSWER: what the other statements come to (plain). -/
namespace Go.Proofs.YtiopfihjmkfdmaaGreatDoor
open Go.RowKit
open Sp (Sm Bl Ct Tr)

/- set -/
def assignR (o : Nat) (l : Sp.Bs) : Except (Nat × Nat) Sp.Bs := (((left (Sp.pName l)).bind (Sp.take [61])).bind fun l => left (Sp.pS Tr o l)).bind (Sp.take [59])

theorem left_assign (o : Nat) (l : Sp.Bs) : left (Sp.pAssign Tr o l) = assignR o l := by
  unfold Sp.pAssign assignR
  cases Sp.pName l with
  | error e => rfl
  | ok kl =>
    simp only [left, Except.bind]
    cases Sp.take [61] kl.2 with
    | error e => rfl
    | ok l2 =>
      simp only
      rcases Sp.pS Tr o l2 with e | ⟨x, l3⟩
      · rfl
      · simp only
        cases Sp.take [59] l3 <;> rfl

theorem fin_assign {o : Nat} {p p1 p3 : FP} {l : Sp.Bs} {d0 n : FNode} {k ka : Int} (e1 : p1.ns = p.ns ++ [d0]) (eq : p1.qs = p.qs) (ec : p1.ct = Sp.ptUp p.ct) (hk : ∀ kk, Sp.nameVal l = some kk → k = (kk : Int)) (hb : Sp.nameVal l ≠ none)
    (g : ∀ l2, (left (Sp.pName l)).bind (Sp.take [61]) = .ok l2 → FGotS p1 p3 l2 ka (Sp.pS Tr o l2)) (he : ∀ e, (left (Sp.pName l)).bind (Sp.take [61]) = .error e → p3 = p1)
    (n1 : n.next = -1) (n2 : n.point = p.ct.1) (n3 : n.kind = 6) (n4 : n.n = k) (n5 : n.a = ka) :
    FGotT p { p3 with ns := p3.ns.set p.ns.length n } l (Sp.pAssign Tr o l) := by
  cases hv : Sp.nameVal l with
  | none => exact absurd hv hb
  | some kk =>
    have hnx : (Sp.next l).length < l.length := Sp.next_lt (Sp.tokLen_pos (.inl (Sp.nameVal_kind hv)))
    unfold Sp.pAssign
    rw [pName_some hv] at g he ⊢
    simp only [left, Except.bind] at g he ⊢
    cases ht : Sp.take [61] (Sp.next l) with
    | error e =>
      have := he e ht
      subst this
      exact bad_stmt n e1 (FBad.refl _ (Sp.next l)) hnx
    | ok l2 =>
      obtain ⟨_, h2⟩ := Sp.take_ok_iff ht
      have hl2 : l2.length ≤ (Sp.next l).length := by rw [h2]; exact Sp.next_le _
      have g1 := g l2 ht
      simp only
      rcases hS : Sp.pS Tr o l2 with e | ⟨x, l3⟩
      · rw [hS] at g1
        exact bad_stmt (l1 := l2) n e1 g1 (by omega)
      · rw [hS] at g1
        obtain ⟨m1, ⟨j, hj1, hj2, hj3⟩, q1⟩ := g1
        simp only
        cases ht2 : Sp.take [59] l3 with
        | error e => exact bad_stmt (l1 := l2) n e1 (FBad.of_made m1) (by omega)
        | ok l4 =>
          obtain ⟨_, h4⟩ := Sp.take_ok_iff ht2
          refine got_stmt (p3 := p3) (f := .assign kk x) e1 eq (by rw [ec]; exact in64_wrap _) (m1.trans (FMade.eat (l' := l4) (by rw [h4]; exact Sp.next_le _))) (by omega) n1 ?_ (numsS x) (by rw [q1, eq]) (fun _ => rfl)
          refine st_assign (a := j) (by have := m1.len; rw [e1] at this; simp at this; omega) n2 n3 (by rw [n4, hk kk hv]) (nameVal_lt8 hv) (by rw [n5, hj1]) hj2 ?_
          rw [← ec]
          have e' : p1.ns.length = p.ns.length + 1 := by rw [e1]; simp
          rw [← e']; exact hj3

/- assert -/
theorem left_assert (o : Nat) (l : Sp.Bs) : left (Sp.pAssert Tr o l) = (left (Sp.pCond Tr o (Sp.next l))).bind (Sp.take [59]) := by
  unfold Sp.pAssert
  rcases Sp.pCond Tr o (Sp.next l) with e | ⟨⟨k, x, y⟩, l1⟩
  · rfl
  · simp only [left, Except.bind]
    cases Sp.take [59] l1 <;> rfl

theorem fin_assert {o : Nat} {p p1 p3 : FP} {l : Sp.Bs} {d0 n : FNode} {kc : Int} (e1 : p1.ns = p.ns ++ [d0]) (eq : p1.qs = p.qs) (ec : p1.ct = Sp.siteUp (Sp.ptUp p.ct)) (hnx : (Sp.next l).length < l.length)
    (g1 : FGotC p1 p3 (Sp.next l) kc (Sp.pCond Tr o (Sp.next l)))
    (n1 : n.next = -1) (n2 : n.point = p.ct.1) (n3 : n.kind = 8) (n4 : n.site = p.ct.2) (n5 : n.a = kc) :
    FGotT p { p3 with ns := p3.ns.set p.ns.length n } l (Sp.pAssert Tr o l) := by
  unfold Sp.pAssert
  rcases hC : Sp.pCond Tr o (Sp.next l) with e | ⟨⟨rel, x, y⟩, l1⟩
  · rw [hC] at g1
    exact bad_stmt (l1 := Sp.next l) n e1 g1 hnx
  · rw [hC] at g1
    obtain ⟨m1, ⟨j, hj1, hj2, hj3⟩, q1⟩ := g1
    simp only
    cases ht2 : Sp.take [59] l1 with
    | error e => exact bad_stmt (l1 := Sp.next l) n e1 (FBad.of_made m1) hnx
    | ok l4 =>
      obtain ⟨_, h4⟩ := Sp.take_ok_iff ht2
      refine got_stmt (p3 := p3) (f := .assert rel x y) e1 eq (by rw [ec]; exact in64_wrap _) (m1.trans (FMade.eat (l' := l4) (by rw [h4]; exact Sp.next_le _))) hnx n1 ?_ (numsS x ++ numsS y) (by rw [q1, eq]) (fun _ => rfl)
      refine st_assert (a := j) (by have := m1.len; rw [e1] at this; simp at this; omega) n2 n3 n4 (by rw [n5, hj1]) hj2 ?_
      rw [← ec]
      have e' : p1.ns.length = p.ns.length + 1 := by rw [e1]; simp
      rw [← e']; exact hj3

/- while -/
def whileR (st : Sp.Bs → Sp.R (Bl → Bl)) (o : Nat) (l : Sp.Bs) : Except (Nat × Nat) Sp.Bs := (left (Sp.pCond Tr o (Sp.next l))).bind fun l => left (fBlock Tr st o l)

theorem left_while (st : Sp.Bs → Sp.R (Bl → Bl)) (o : Nat) (l : Sp.Bs) (hb : ∀ l, Sp.pBlock Tr st o l = fBlock Tr st o l) : left (Sp.pWhile Tr (fun l => Sp.pBlock Tr st o l) o l) = whileR st o l := by
  unfold Sp.pWhile whileR
  rcases Sp.pCond Tr o (Sp.next l) with e | ⟨⟨k, x, y⟩, l1⟩
  · rfl
  · simp only [left, Except.bind]
    rw [hb]
    rcases fBlock Tr st o l1 with e | ⟨fs, l2⟩ <;> rfl

theorem fin_while {st : Sp.Bs → Sp.R (Bl → Bl)} {o : Nat} (hb : ∀ l, Sp.pBlock Tr st o l = fBlock Tr st o l) {p p1 p3 p4 : FP} {l : Sp.Bs} {d0 n : FNode} {kc kb : Int} (e1 : p1.ns = p.ns ++ [d0]) (eq : p1.qs = p.qs) (ec : p1.ct = Sp.ptUp p.ct) (hnx : (Sp.next l).length < l.length)
    (g1 : FGotC p1 p3 (Sp.next l) kc (Sp.pCond Tr o (Sp.next l))) (g2 : ∀ l2, left (Sp.pCond Tr o (Sp.next l)) = .ok l2 → FGotB p3 p4 l2 kb (fBlock Tr st o l2)) (he : ∀ e, left (Sp.pCond Tr o (Sp.next l)) = .error e → p4 = p3)
    (n1 : n.next = -1) (n2 : n.point = p.ct.1) (n3 : n.kind = 10) (n5 : n.a = kc) (n6 : n.b = kb) :
    FGotT p { p4 with ns := p4.ns.set p.ns.length n } l (Sp.pWhile Tr (fun l => Sp.pBlock Tr st o l) o l) := by
  unfold Sp.pWhile
  rcases hC : Sp.pCond Tr o (Sp.next l) with e | ⟨⟨rel, x, y⟩, l1⟩
  · rw [hC] at g1 he
    have := he e rfl
    subst this
    exact bad_stmt (l1 := Sp.next l) n e1 g1 hnx
  · rw [hC] at g1 g2
    obtain ⟨m1, ⟨j, hj1, hj2, hj3⟩, q1⟩ := g1
    have g3 := g2 l1 rfl
    simp only
    rw [hb]
    rcases hB : fBlock Tr st o l1 with e | ⟨fs, l2⟩
    · rw [hB] at g3
      exact bad_stmt (l1 := Sp.next l) n e1 (FBad.made m1 g3) hnx
    · rw [hB] at g3
      obtain ⟨m2, hbl, q2⟩ := g3
      have e' : p1.ns.length = p.ns.length + 1 := by rw [e1]; simp
      have hl1 := m1.len
      have hl2 := m2.len
      refine got_stmt (p3 := p4) (f := .loop rel x y (Sp.joinB fs)) e1 eq (by rw [ec]; exact in64_wrap _) (m1.trans m2) hnx n1 ?_ (numsS x ++ numsS y ++ numsB (Sp.joinB fs)) (by rw [q2, q1, eq, List.append_assoc]) (fun _ => by simp [numsB])
      refine st_loop (a := j) (ct1 := p3.ct) (by omega) n2 n3 (by rw [n5, hj1]) (by omega) ?_ ?_
      · rw [← ec, ← e']
        exact hj3.mono (Nat.le_refl _) (fun i _ hi => m2.at (by omega))
      · rw [n6]
        exact hbl.mono (by omega) (Nat.le_refl _) (fun _ _ _ => rfl)

end Go.Proofs.YtiopfihjmkfdmaaGreatDoor

/- THE DOCUMENT'S ANSWER: what an if comes to; what stays as it was (plain). -/
namespace Go.Proofs.YtiopfihjmkfdmaaGreatDoor
open Go.RowKit
open Sp (Sm Bl Ct Tr)

theorem hid_rfl {α : Type} (a : α) : Hid (a = a) := rfl
theorem pre_bad {p p' : FP} {l : Sp.Bs} (h : FBad p p' l) : ∃ ex, p'.ns = p.ns ++ ex := h.1
theorem pre_S {p p' : FP} {l : Sp.Bs} {k : Int} {r : Sp.R Sm} (h : FGotS p p' l k r) : ∃ ex, p'.ns = p.ns ++ ex := by
  rcases r with e | ⟨x, l1⟩
  · exact pre_bad h
  · exact h.1.pre
theorem pre_C {p p' : FP} {l : Sp.Bs} {k : Int} {r : Sp.R (Nat × Sm × Sm)} (h : FGotC p p' l k r) : ∃ ex, p'.ns = p.ns ++ ex := by
  rcases r with e | ⟨⟨a, x, y⟩, l1⟩
  · exact pre_bad h
  · exact h.1.pre
theorem pre_B {p p' : FP} {l : Sp.Bs} {k : Int} {r : Sp.R (List (Bl → Bl))} (h : FGotB p p' l k r) : ∃ ex, p'.ns = p.ns ++ ex := by
  rcases r with e | ⟨fs, l1⟩
  · exact pre_bad h
  · exact h.1.pre
theorem pre_mode {p p' : FP} {r : Except (Nat × Nat) Sp.Bs} (g : ∀ l, r = .ok l → ∃ ex, p'.ns = p.ns ++ ex) (he : ∀ e, r = .error e → p' = p) : ∃ ex, p'.ns = p.ns ++ ex := by
  cases r with
  | ok l => exact g l rfl
  | error e => exact ⟨[], by rw [he e rfl]; simp⟩
theorem pre_trans {p p1 p2 : FP} (h : ∃ ex, p1.ns = p.ns ++ ex) (k : ∃ ex, p2.ns = p1.ns ++ ex) : ∃ ex, p2.ns = p.ns ++ ex := by
  obtain ⟨a, ha⟩ := h
  obtain ⟨c, hc⟩ := k
  exact ⟨a ++ c, by rw [hc, ha, List.append_assoc]⟩
theorem pre_dummy {p p1 p3 : FP} {d0 : FNode} (e1 : p1.ns = p.ns ++ [d0]) (h : ∃ ex, p3.ns = p1.ns ++ ex) : p3.ns[p.ns.length]? = some d0 := by
  obtain ⟨ex, hex⟩ := h
  rw [hex, e1]; simp

theorem lim_start {p p1 : FP} {l l1 : Sp.Bs} {d0 : FNode} (h : FLim p l) (e1 : p1.ns = p.ns ++ [d0]) (eq : p1.qs = p.qs) (hp : In64 p1.ct.1) (hl : l1.length < l.length) : FLim p1 l1 := by
  obtain ⟨h1, h2, _⟩ := h
  refine ⟨?_, ?_, hp⟩
  · rw [e1]; simp; omega
  · rw [eq]; omega

theorem left_assign2 (o : Nat) (l : Sp.Bs) : ((((left (Sp.pName l)).bind (Sp.take [61])).bind fun l => @left Sm (Sp.pS Tr o l)).bind (Sp.take [59])) = @left (Bl → Bl) (Sp.pAssign Tr o l) := by
  unfold Sp.pAssign
  cases Sp.pName l with
  | error e => rfl
  | ok kl =>
    simp only [left, Except.bind]
    cases Sp.take [61] kl.2 with
    | error e => rfl
    | ok l2 =>
      simp only
      rcases Sp.pS Tr o l2 with e | ⟨x, l3⟩
      · rfl
      · simp only
        cases Sp.take [59] l3 <;> rfl
theorem left_assert2 (o : Nat) (l : Sp.Bs) : ((@left (Nat × Sm × Sm) (Sp.pCond Tr o (Sp.next l))).bind (Sp.take [59])) = @left (Bl → Bl) (Sp.pAssert Tr o l) := by
  unfold Sp.pAssert
  rcases Sp.pCond Tr o (Sp.next l) with e | ⟨⟨k, x, y⟩, l1⟩
  · rfl
  · simp only [left, Except.bind]
    cases Sp.take [59] l1 <;> rfl
theorem whileR_eq (st : Sp.Bs → Sp.R (Bl → Bl)) (o : Nat) (l : Sp.Bs) : ((@left (Nat × Sm × Sm) (Sp.pCond Tr o (Sp.next l))).bind fun l => @left (List (Bl → Bl)) (fBlock Tr st o l)) = whileR st o l := by
  unfold whileR
  rcases Sp.pCond Tr o (Sp.next l) with e | ⟨⟨k, x, y⟩, l1⟩
  · rfl
  · simp only [left, Except.bind]
    rcases fBlock Tr st o l1 with e | ⟨fs, l2⟩ <;> rfl
theorem left_while2 (st : Sp.Bs → Sp.R (Bl → Bl)) (o : Nat) (l : Sp.Bs) (hb : ∀ l, Sp.pBlock Tr st o l = fBlock Tr st o l) : ((@left (Nat × Sm × Sm) (Sp.pCond Tr o (Sp.next l))).bind fun l => @left (List (Bl → Bl)) (fBlock Tr st o l)) = @left (Bl → Bl) (Sp.pWhile Tr (fun l => Sp.pBlock Tr st o l) o l) := by
  unfold Sp.pWhile
  rcases Sp.pCond Tr o (Sp.next l) with e | ⟨⟨k, x, y⟩, l1⟩
  · rfl
  · simp only [left, Except.bind]
    rw [hb]
    rcases fBlock Tr st o l1 with e | ⟨fs, l2⟩ <;> rfl
theorem FMid.castR {base b pb N : Nat} {s : ByteArray} {r r' : Except (Nat × Nat) Sp.Bs} {o : Int} {p0 p : FP} {w0 w : World} {n : FNode} (e : r = r') (h : FMid base b pb N s r o p0 p w0 n w) : FMid base b pb N s r' o p0 p w0 n w := by rw [← e]; exact h
/-- the whole -/
theorem post_fin {base b pb : Nat} {s : ByteArray} {o : Nat} {p p' : FP} {l : Sp.Bs} {w w' : World} {r : Sp.R (Bl → Bl)} {q : Except (Nat × Nat) Sp.Bs} (e : q = left r) (h : FX base b pb s q (o : Int) p' w') (k : FK b pb p p' w w') (g : FGotT p p' l r) : FPostT base b pb s o p l w r (.returned (.int .i64 (p.ns.length : Nat))) w' := ⟨p', rfl, FX.cast e h, k, g⟩

/- if -/
theorem pIf_gen (A : Sp.Alg) (st : Sp.Bs → Sp.R A.T) (o : Nat) (l : Sp.Bs) (hb : ∀ l, Sp.pBlock A st o l = fBlock A st o l) : Sp.pIf A (fun l => Sp.pBlock A st o l) o l = (match Sp.pCond A o (Sp.next l) with
  | .ok ((k, x, y), l1) => (match fBlock A st o l1 with
    | .ok (xs, l2) => if Sp.tok l2 = Sp.wElse then (match fBlock A st o (Sp.next l2) with
        | .ok (ys, l3) => .ok (A.ite k x y xs (some ys), l3)
        | .error e => .error e) else .ok (A.ite k x y xs none, l2)
    | .error e => .error e)
  | .error e => .error e) := by
  unfold Sp.pIf
  simp only [hb]
  rcases Sp.pCond A o (Sp.next l) with e | ⟨⟨k, x, y⟩, l1⟩
  · rfl
  · simp only
    rcases fBlock A st o l1 with e | ⟨xs, l2⟩
    · rfl
    · simp only
      by_cases he : Sp.tok l2 = Sp.wElse
      · rw [if_pos he, if_pos he]
        rcases fBlock A st o (Sp.next l2) with e | ⟨ys, l3⟩ <;> rfl
      · rw [if_neg he, if_neg he]

def ifR (st : Sp.Bs → Sp.R (Bl → Bl)) (o : Nat) (l : Sp.Bs) : Except (Nat × Nat) Sp.Bs := (whileR st o l).bind fun l2 => if Sp.tok l2 = Sp.wElse then left (fBlock Tr st o (Sp.next l2)) else .ok l2

theorem left_if (st : Sp.Bs → Sp.R (Bl → Bl)) (o : Nat) (l : Sp.Bs) (hb : ∀ l, Sp.pBlock Tr st o l = fBlock Tr st o l) : left (Sp.pIf Tr (fun l => Sp.pBlock Tr st o l) o l) = ifR st o l := by
  rw [pIf_gen Tr st o l hb]
  unfold ifR whileR
  rcases Sp.pCond Tr o (Sp.next l) with e | ⟨⟨k, x, y⟩, l1⟩
  · rfl
  · simp only [left, Except.bind]
    rcases fBlock Tr st o l1 with e | ⟨fs, l2⟩
    · rfl
    · simp only
      by_cases he : Sp.tok l2 = Sp.wElse
      · rw [if_pos he, if_pos he]
        rcases fBlock Tr st o (Sp.next l2) with e | ⟨ys, l3⟩ <;> rfl
      · rw [if_neg he, if_neg he]

theorem left_if_bad {st : Sp.Bs → Sp.R (Bl → Bl)} {o : Nat} {l : Sp.Bs} (hb : ∀ l, Sp.pBlock Tr st o l = fBlock Tr st o l) {er : Nat × Nat} (h : whileR st o l = .error er) : .error er = @left (Bl → Bl) (Sp.pIf Tr (fun l => Sp.pBlock Tr st o l) o l) := by
  have := left_if st o l hb
  unfold ifR at this
  rw [h] at this
  exact this.symm
theorem left_if_none {st : Sp.Bs → Sp.R (Bl → Bl)} {o : Nat} {l l2 : Sp.Bs} (hb : ∀ l, Sp.pBlock Tr st o l = fBlock Tr st o l) (h : whileR st o l = .ok l2) (he : Sp.tok l2 ≠ Sp.wElse) : .ok l2 = @left (Bl → Bl) (Sp.pIf Tr (fun l => Sp.pBlock Tr st o l) o l) := by
  have := left_if st o l hb
  unfold ifR at this
  rw [h] at this
  simp only [Except.bind] at this
  rw [if_neg he] at this
  exact this.symm
theorem left_if_else {st : Sp.Bs → Sp.R (Bl → Bl)} {o : Nat} {l l2 : Sp.Bs} (hb : ∀ l, Sp.pBlock Tr st o l = fBlock Tr st o l) (h : whileR st o l = .ok l2) (he : Sp.tok l2 = Sp.wElse) : ((Except.ok (Sp.next l2) : Except (Nat × Nat) Sp.Bs).bind fun l => @left (List (Bl → Bl)) (fBlock Tr st o l)) = @left (Bl → Bl) (Sp.pIf Tr (fun l => Sp.pBlock Tr st o l) o l) := by
  have := left_if st o l hb
  unfold ifR at this
  rw [h] at this
  simp only [Except.bind] at this
  rw [if_pos he] at this
  exact this.symm

theorem fin_if_bad {st : Sp.Bs → Sp.R (Bl → Bl)} {o : Nat} (hb : ∀ l, Sp.pBlock Tr st o l = fBlock Tr st o l) {p p1 p3 p4 : FP} {l : Sp.Bs} {d0 n : FNode} {kc kb : Int} (e1 : p1.ns = p.ns ++ [d0]) (hnx : (Sp.next l).length < l.length)
    (g1 : FGotC p1 p3 (Sp.next l) kc (Sp.pCond Tr o (Sp.next l))) (g2 : ∀ l2, left (Sp.pCond Tr o (Sp.next l)) = .ok l2 → FGotB p3 p4 l2 kb (fBlock Tr st o l2)) (he : ∀ e, left (Sp.pCond Tr o (Sp.next l)) = .error e → p4 = p3) {er : Nat × Nat} (hbad : whileR st o l = .error er) :
    FGotT p { p4 with ns := p4.ns.set p.ns.length n } l (Sp.pIf Tr (fun l => Sp.pBlock Tr st o l) o l) := by
  rw [pIf_gen Tr st o l hb]
  unfold whileR at hbad
  rcases hC : Sp.pCond Tr o (Sp.next l) with e | ⟨⟨rel, x, y⟩, l1⟩
  · rw [hC] at g1 he
    have := he e rfl
    subst this
    exact bad_stmt (l1 := Sp.next l) n e1 g1 hnx
  · rw [hC] at g1 g2 hbad
    obtain ⟨m1, ⟨j, hj1, hj2, hj3⟩, q1⟩ := g1
    have g3 := g2 l1 rfl
    simp only
    rcases hB : fBlock Tr st o l1 with e | ⟨fs, l2⟩
    · rw [hB] at g3
      exact bad_stmt (l1 := Sp.next l) n e1 (FBad.made m1 g3) hnx
    · simp only [left, Except.bind] at hbad
      rw [hB] at hbad
      cases hbad

theorem fin_if_none {st : Sp.Bs → Sp.R (Bl → Bl)} {o : Nat} (hb : ∀ l, Sp.pBlock Tr st o l = fBlock Tr st o l) {p p1 p3 p4 : FP} {l : Sp.Bs} {d0 n : FNode} {kc kb : Int} (e1 : p1.ns = p.ns ++ [d0]) (eq : p1.qs = p.qs) (ec : p1.ct = Sp.ptUp p.ct) (hnx : (Sp.next l).length < l.length)
    (g1 : FGotC p1 p3 (Sp.next l) kc (Sp.pCond Tr o (Sp.next l))) (g2 : ∀ l2, left (Sp.pCond Tr o (Sp.next l)) = .ok l2 → FGotB p3 p4 l2 kb (fBlock Tr st o l2))
    {l2 : Sp.Bs} (hok : whileR st o l = .ok l2) (hne : Sp.tok l2 ≠ Sp.wElse)
    (n1 : n.next = -1) (n2 : n.point = p.ct.1) (n3 : n.kind = 9) (n5 : n.a = kc) (n6 : n.b = kb) (n7 : n.c = -1) (n8 : n.els = false) :
    FGotT p { p4 with ns := p4.ns.set p.ns.length n } l (Sp.pIf Tr (fun l => Sp.pBlock Tr st o l) o l) := by
  rw [pIf_gen Tr st o l hb]
  unfold whileR at hok
  rcases hC : Sp.pCond Tr o (Sp.next l) with e | ⟨⟨rel, x, y⟩, l1⟩
  · rw [hC] at hok; cases hok
  · rw [hC] at g1 g2 hok
    obtain ⟨m1, ⟨j, hj1, hj2, hj3⟩, q1⟩ := g1
    have g3 := g2 l1 rfl
    simp only [left, Except.bind] at hok
    simp only
    rcases hB : fBlock Tr st o l1 with e | ⟨fs, l2'⟩
    · rw [hB] at hok; cases hok
    · rw [hB] at g3 hok
      have : l2' = l2 := by simpa using hok
      subst this
      obtain ⟨m2, hbl, q2⟩ := g3
      have e' : p1.ns.length = p.ns.length + 1 := by rw [e1]; simp
      have hl1 := m1.len
      have hl2 := m2.len
      simp only
      rw [if_neg hne]
      refine got_stmt (p3 := p4) (f := .ite rel x y (Sp.joinB fs) false .nil) e1 eq (by rw [ec]; exact in64_wrap _) (m1.trans m2) hnx n1 ?_ (numsS x ++ numsS y ++ numsB (Sp.joinB fs)) (by rw [q2, q1, eq, List.append_assoc]) (fun _ => by simp [numsB])
      refine st_ite (a := j) (ct1 := p3.ct) (ct2 := p4.ct) (by omega) n2 n3 n8 (by rw [n5, hj1]) (by omega) ?_ ?_ ⟨n7, rfl⟩ (fun _ => rfl)
      · rw [← ec, ← e']
        exact hj3.mono (Nat.le_refl _) (fun i _ hi => m2.at (by omega))
      · rw [n6]
        exact hbl.mono (by omega) (Nat.le_refl _) (fun _ _ _ => rfl)

theorem fin_if_else {st : Sp.Bs → Sp.R (Bl → Bl)} {o : Nat} (hb : ∀ l, Sp.pBlock Tr st o l = fBlock Tr st o l) {p p1 p3 p4 p5 : FP} {l : Sp.Bs} {d0 n : FNode} {kc kb ke : Int} (e1 : p1.ns = p.ns ++ [d0]) (eq : p1.qs = p.qs) (ec : p1.ct = Sp.ptUp p.ct) (hnx : (Sp.next l).length < l.length)
    (g1 : FGotC p1 p3 (Sp.next l) kc (Sp.pCond Tr o (Sp.next l))) (g2 : ∀ l2, left (Sp.pCond Tr o (Sp.next l)) = .ok l2 → FGotB p3 p4 l2 kb (fBlock Tr st o l2))
    {l2 : Sp.Bs} (hok : whileR st o l = .ok l2) (he : Sp.tok l2 = Sp.wElse) (g4 : FGotB p4 p5 (Sp.next l2) ke (fBlock Tr st o (Sp.next l2)))
    (n1 : n.next = -1) (n2 : n.point = p.ct.1) (n3 : n.kind = 9) (n5 : n.a = kc) (n6 : n.b = kb) (n7 : n.c = ke) (n8 : n.els = true) :
    FGotT p { p5 with ns := p5.ns.set p.ns.length n } l (Sp.pIf Tr (fun l => Sp.pBlock Tr st o l) o l) := by
  rw [pIf_gen Tr st o l hb]
  unfold whileR at hok
  rcases hC : Sp.pCond Tr o (Sp.next l) with e | ⟨⟨rel, x, y⟩, l1⟩
  · rw [hC] at hok; cases hok
  · rw [hC] at g1 g2 hok
    obtain ⟨m1, ⟨j, hj1, hj2, hj3⟩, q1⟩ := g1
    have g3 := g2 l1 rfl
    simp only [left, Except.bind] at hok
    simp only
    rcases hB : fBlock Tr st o l1 with e | ⟨fs, l2'⟩
    · rw [hB] at hok; cases hok
    · rw [hB] at g3 hok
      have : l2' = l2 := by simpa using hok
      subst this
      obtain ⟨m2, hbl, q2⟩ := g3
      have e' : p1.ns.length = p.ns.length + 1 := by rw [e1]; simp
      have hl1 := m1.len
      have hl2 := m2.len
      have me : FMade p4 p4 l2' (Sp.next l2') := FMade.eat (Sp.next_le _)
      simp only
      rw [if_pos he]
      rcases hB2 : fBlock Tr st o (Sp.next l2') with e | ⟨ys, l3⟩
      · rw [hB2] at g4
        exact bad_stmt (l1 := Sp.next l) n e1 (FBad.made ((m1.trans m2).trans me) g4) hnx
      · rw [hB2] at g4
        obtain ⟨m4, hbl2, q4⟩ := g4
        have hl4 := m4.len
        simp only
        refine got_stmt (p3 := p5) (f := .ite rel x y (Sp.joinB fs) true (Sp.joinB ys)) e1 eq (by rw [ec]; exact in64_wrap _) (((m1.trans m2).trans me).trans m4) hnx n1 ?_ (numsS x ++ numsS y ++ numsB (Sp.joinB fs) ++ numsB (Sp.joinB ys)) (by rw [q4, q2, q1, eq]; simp only [List.append_assoc]) (fun _ => by simp [numsB])
        refine st_ite (a := j) (ct1 := p3.ct) (ct2 := p4.ct) (by omega) n2 n3 n8 (by rw [n5, hj1]) (by omega) ?_ ?_ ?_ (fun e => nomatch e)
        · rw [← ec, ← e']
          exact hj3.mono (Nat.le_refl _) (fun i _ hi => by rw [m4.at (by omega), m2.at (by omega)])
        · rw [n6]
          exact hbl.mono (by omega) (by omega) (fun i _ hi => m4.at (by omega))
        · rw [n7]
          exact hbl2.mono (by omega) (Nat.le_refl _) (fun _ _ _ => rfl)

end Go.Proofs.YtiopfihjmkfdmaaGreatDoor
