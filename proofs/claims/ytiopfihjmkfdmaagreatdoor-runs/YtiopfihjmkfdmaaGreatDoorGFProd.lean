/- THE DOCUMENT'S ANSWER: two; the loops of product and sum, what they keep. -/
import Derived.Test.YtiopfihjmkfdmaaGreatDoorGFUn
namespace Go.Proofs.YtiopfihjmkfdmaaGreatDoor
open Go.RowKit
open Sp (Sm Bl Ct Tr)
set_option maxRecDepth 100000
set_option maxHeartbeats 8000000

theorem two_calls {base b pb : Nat} {s : ByteArray} {r : Except (Nat × Nat) Sp.Bs} {o : Int} {p : FP} {w : World} (h : FX base b pb s r o p w) (x y site : Int) (t : Sp.Bs) (hn : p.ns.length + 1 ≤ 1000000) :
    Calls Tryz.prog 176 #[.pointer (some ⟨b, 0, none⟩), .int .i64 x, .string ⟨t.toArray⟩, .int .i64 site, .int .i64 y] w fun e w' => e = .returned (.int .i64 (p.ns.length : Nat)) ∧ ∃ v, FX base b pb s r o { p with ns := p.ns ++ [{ kind := 4, a := x, b := y, sign := t, site := site }], nv := v } w' ∧ FK b pb p { p with ns := p.ns ++ [{ kind := 4, a := x, b := y, sign := t, site := site }], nv := v } w w' := by
  have H : Hid (FX base b pb s r o p w) := h
  clear h
  go_enter Tryz.func176, Tryz.ntmps176
  go_wp2_with fail
  refine (node_calls H.out { kind := 4, a := x, b := y, sign := t, site := site } hn).mono ?_
  rintro e w2 ⟨rfl, v, h2, k2⟩
  go_wp2_with fail
  go_ret
  exact ⟨rfl, v, h2, k2⟩

theorem fp_site {w : World} {pb : Nat} {p : FP} {first : Int} (h : w.heap[pb]? = some (.cells (fpCells p first) 105)) (n : Int) : (w.setCell ⟨pb, 3, none⟩ (.int .i64 n)).heap[pb]? = some (.cells (fpCells { p with ct := (p.ct.1, n) } first) 105) := by
  rw [heap_setCell_at h 3 (.int .i64 n)]; rfl
theorem fp_point {w : World} {pb : Nat} {p : FP} {first : Int} (h : w.heap[pb]? = some (.cells (fpCells p first) 105)) (n : Int) : (w.setCell ⟨pb, 2, none⟩ (.int .i64 n)).heap[pb]? = some (.cells (fpCells { p with ct := (n, p.ct.2) } first) 105) := by
  rw [heap_setCell_at h 2 (.int .i64 n)]; rfl

/-- where the program's own block is written -/
theorem FX.set_prog {base b pb : Nat} {s : ByteArray} {r : Except (Nat × Nat) Sp.Bs} {o : Int} {p p' : FP} {w : World} (h : FX base b pb s r o p w) (i : Nat) (u : Value) (hb : (w.setCell ⟨pb, i, none⟩ u).heap[pb]? = some (.cells (fpCells p' 0) 105)) (h1 : p'.ns = p.ns) (h2 : p'.qs = p.qs) (h3 : p'.nv = p.nv) (h4 : p'.qv = p.qv) :
    FX base b pb s r o p' (w.setCell ⟨pb, i, none⟩ u) ∧ FK b pb p p' w (w.setCell ⟨pb, i, none⟩ u) := by
  have hp := h.prog
  have hnp := hp.rows_ne hp.blk prog_ne
  refine ⟨h.move (Below.heap_setCell _ _ _ _ h.ne) ⟨hb, ?_, ?_, hp.ge, by rw [h1]; exact hp.n5, by rw [h2]; exact hp.q5⟩, rfl, rfl, rfl, by simp [World.setCell], fun _ e => .inl (by rw [← h3]; exact e), fun _ e => .inl (by rw [← h4]; exact e), fun k hk _ e2 _ _ => Below.heap_setCell _ _ _ _ e2⟩
  · rw [h1, h3]
    exact ownsRow9_keep hp.rowN (fun g hg' => Below.heap_setCell _ _ _ _ (fun e => hnp.1 (by rw [← show g = pb from e]; exact hg')))
  · rw [h2, h4]
    exact ownsRow9_keep hp.rowQ (fun g hg' => Below.heap_setCell _ _ _ _ (fun e => hnp.2 (by rw [← show g = pb from e]; exact hg')))

/-- how much is left to read -/
def fRest (b : Nat) (s : ByteArray) (w : World) : Nat := match w.cell? ⟨b, 6, none⟩ with
  | some (.int _ 0) => (match w.cell? ⟨b, 2, none⟩ with
    | some (.int _ a) => s.size + 1 - a.toNat
    | _ => 0)
  | _ => 0

theorem FR.rest {base b pb : Nat} {s : ByteArray} {l : Sp.Bs} {o : Int} {p : FP} {w : World} (h : FR base b pb s l o p w) : fRest b s w = l.length + 1 := by
  unfold fRest
  rw [cell_of h.blk 6 (v := .int .i64 0) rfl]
  simp only
  rw [cell_of h.blk 2 (v := .int .i64 ((s.size - l.length : Nat) : Int)) rfl]
  simp only
  have := h.len
  omega
theorem FE.rest {base b pb : Nat} {s : ByteArray} {er : Nat × Nat} {p : FP} {w : World} (h : FE base b pb s er p w) : fRest b s w = 0 := by
  obtain ⟨i, l0, o, hb, _⟩ := h.blk
  have hz := h.nz
  unfold fRest
  rw [cell_of hb 6 (v := .int .i64 er.1) rfl]
  split
  · rename_i k e
    have : er.1 = 0 := (by simpa using e : _ ∧ er.1 = 0).2
    omega
  · rfl
theorem FX.rest_le {base b pb : Nat} {s : ByteArray} {α : Type} {r : Sp.R α} {o : Int} {p : FP} {w : World} (h : FX base b pb s (left r) o p w) {m : Nat} (hm : ∀ x l, r = .ok (x, l) → l.length < m) : fRest b s w ≤ m := by
  cases r with
  | error e => rw [FE.rest (show FE base b pb s e p w from h)]; omega
  | ok xl => rw [FR.rest (show FR base b pb s xl.2 o p w from h)]; exact hm xl.1 xl.2 rfl

/-- what is still to come -/
def FChainA (A : Sp.Alg) (lv : Nat) (u : Sp.Bs → Sp.R A.S) (fin : Sp.R A.S) : Sp.R A.S → Prop
  | .ok (x, l) => ∃ m, l.length < m ∧ fin = Sp.pChain A lv u m x l
  | .error e => fin = .error e

def roundA (A : Sp.Alg) (op : Nat) (x : A.S) : Sp.R A.S → Sp.R A.S
  | .ok (y, l) => .ok (A.bin op x y, l)
  | .error e => .error e

theorem pChain_gen (A : Sp.Alg) (lv : Nat) (u : Sp.Bs → Sp.R A.S) (m : Nat) (x : A.S) (l : Sp.Bs) : Sp.pChain A lv u (m + 1) x l = match Sp.opOf (Sp.tok l) with
    | some k => if Sp.opLevel k = lv then (match u (Sp.next l) with
        | .ok (y, l') => Sp.pChain A lv u m (A.bin k x y) l'
        | .error e => .error e) else .ok (x, l)
    | none => .ok (x, l) := by rw [Sp.pChain]; rfl

theorem chain_nextA {A : Sp.Alg} {lv op : Nat} {u : Sp.Bs → Sp.R A.S} {fin : Sp.R A.S} {x : A.S} {l : Sp.Bs} (h : FChainA A lv u fin (.ok (x, l))) (hop : Sp.opOf (Sp.tok l) = some op) (hlv : Sp.opLevel op = lv) (hdec : ∀ l x l1, u l = .ok (x, l1) → l1.length ≤ l.length) : FChainA A lv u fin (roundA A op x (u (Sp.next l))) := by
  obtain ⟨m, hm, e⟩ := h
  cases m with
  | zero => omega
  | succ m =>
    have hn := opOf_next hop
    rw [pChain_gen] at e
    rw [hop] at e
    simp only [hlv, if_true] at e
    cases hu : u (Sp.next l) with
    | error er => rw [hu] at e; exact e
    | ok yl =>
      obtain ⟨y, l1⟩ := yl
      have := hdec _ _ _ hu
      rw [hu] at e
      exact ⟨m, by omega, e⟩

theorem chain_stopA {A : Sp.Alg} {lv : Nat} {u : Sp.Bs → Sp.R A.S} {fin : Sp.R A.S} {x : A.S} {l : Sp.Bs} (h : FChainA A lv u fin (.ok (x, l))) (hop : ∀ op, Sp.opOf (Sp.tok l) = some op → Sp.opLevel op ≠ lv) : fin = .ok (x, l) := by
  obtain ⟨m, hm, e⟩ := h
  cases m with
  | zero => omega
  | succ m =>
    rw [pChain_gen] at e
    cases ho : Sp.opOf (Sp.tok l) with
    | none => rw [ho] at e; exact e
    | some op =>
      rw [ho] at e
      simp only [if_neg (hop op ho)] at e
      exact e

/-- the same of trees -/
def FChain (lv : Nat) (u : Sp.Bs → Sp.R Sm) (fin : Sp.R Sm) (r : Sp.R Sm) : Prop := FChainA Tr lv u fin r
def roundOf (op : Nat) (x : Sm) : Sp.R Sm → Sp.R Sm
  | .ok (y, l) => .ok (.bin op x y, l)
  | .error e => .error e
theorem round_eq (op : Nat) (x : Sm) (r : Sp.R Sm) : roundA Tr op x r = roundOf op x r := by
  rcases r with e | ⟨y, l⟩ <;> rfl
theorem chain_next {lv op : Nat} {u : Sp.Bs → Sp.R Sm} {fin : Sp.R Sm} {x : Sm} {l : Sp.Bs} (h : FChain lv u fin (.ok (x, l))) (hop : Sp.opOf (Sp.tok l) = some op) (hlv : Sp.opLevel op = lv) (hdec : ∀ l x l1, u l = .ok (x, l1) → l1.length ≤ l.length) : FChain lv u fin (roundOf op x (u (Sp.next l))) := by
  have := chain_nextA (A := Tr) h hop hlv hdec
  rw [← round_eq]
  exact this
theorem chain_stop {lv : Nat} {u : Sp.Bs → Sp.R Sm} {fin : Sp.R Sm} {x : Sm} {l : Sp.Bs} (h : FChain lv u fin (.ok (x, l))) (hop : ∀ op, Sp.opOf (Sp.tok l) = some op → Sp.opLevel op ≠ lv) : fin = .ok (x, l) := chain_stopA (A := Tr) h hop
theorem chain_error {lv : Nat} {u : Sp.Bs → Sp.R Sm} {fin : Sp.R Sm} {e : Nat × Nat} (h : FChain lv u fin (.error e)) : fin = .error e := h
/-- ahead of the loop -/
theorem chain_start {lv : Nat} {u : Sp.Bs → Sp.R Sm} {l : Sp.Bs} : FChain lv u (Sp.pWith Tr lv u l) (u l) := by
  unfold Sp.pWith
  show FChainA Tr lv u _ _
  rcases hu : u l with e | ⟨x, l1⟩
  · exact rfl
  · exact ⟨l1.length + 1, by omega, rfl⟩

/-- behind a round -/
theorem round_got {p p1 p2 p3 : FP} {l l1 : Sp.Bs} {k k2 : Int} {x : Sm} {op : Nat} {r : Sp.R Sm} {n : FNode} {v : Value} (g : FGotS p p1 l k (.ok (x, l1))) (hop : Sp.opOf (Sp.tok l1) = some op)
    (e1 : p2.ns = p1.ns) (e2 : p2.qs = p1.qs) (e3 : p2.ct = if 3 ≤ op then Sp.siteUp p1.ct else p1.ct) (g2 : FGotS p2 p3 (Sp.next l1) k2 r) (hk : n.kind = 4) (ha : n.a = k) (hb : n.b = k2) (hs : n.sign = Sp.tok l1) (hsite : 3 ≤ op → n.site = p1.ct.2) :
    FGotS p { p3 with ns := p3.ns ++ [n], nv := v } l (p3.ns.length : Nat) (roundOf op x r) := by
  have hn := opOf_next hop
  obtain ⟨m1, ⟨j, hj1, hj2, hj3⟩, q1⟩ := g
  cases r with
  | error e =>
    have g3 : FBad p2 p3 (Sp.next l1) := g2
    have g4 : FBad p1 p3 (Sp.next l1) := by
      obtain ⟨⟨ex, hex⟩, g5⟩ := g3
      exact ⟨⟨ex, by rw [hex, e1]⟩, by rw [e1] at g5; exact g5⟩
    exact FBad.made m1 (g4.node hn n v)
  | ok yl =>
    obtain ⟨y, l2⟩ := yl
    obtain ⟨m2, ⟨j2, i1, i2, i3⟩, q2⟩ := g2
    obtain ⟨ex1, x1⟩ := m1.pre
    obtain ⟨ex2, x2⟩ := m2.pre
    have n1 := m1.nl
    have n2 := m2.nl
    have l1' := m1.ql
    have l2' := m2.ql
    rw [e1] at n2 x2
    rw [e2] at l2' q2
    have hlen : p1.ns.length ≤ p3.ns.length := by rw [x2]; simp
    have hlen0 : p.ns.length ≤ p1.ns.length := m1.len
    have hin : ∀ i, i < p1.ns.length → (p3.ns ++ [n])[i]? = p1.ns[i]? := fun i hi => by rw [List.getElem?_append_left (by omega), x2, List.getElem?_append_left hi]
    refine ⟨⟨⟨ex1 ++ (ex2 ++ [n]), by show p3.ns ++ [n] = _; rw [x2, x1]; simp⟩, by simp; omega, by show p3.qs.length + _ ≤ _; omega, fun q => m2.pt (by rw [e3]; have := m1.pt q; split <;> exact this)⟩, ⟨p3.ns.length, rfl, by simp, ?_⟩, by show p3.qs = _; rw [q2, q1]; simp [numsS]⟩
    refine ⟨n, j, j2, p1.ct, by simp, hk, by rw [ha, hj1], by rw [hb, i1], ?_, opOf_lt hop, by omega, i2, hj3.mono (Nat.le_refl _) (fun i _ hi => hin i (by omega)), hsite, ?_⟩
    · rw [hs]
      unfold Sp.opOf at hop
      repeat' split at hop
      all_goals first | (rename_i he; cases hop; rw [he]; rfl) | cases hop
    · rw [← e3, e1] at *
      exact i3.mono hlen0 (fun i _ hi => by show (p3.ns ++ [n])[i]? = _; rw [List.getElem?_append_left (by omega)])

end Go.Proofs.YtiopfihjmkfdmaaGreatDoor

/- THE DOCUMENT'S ANSWER: product. -/
namespace Go.Proofs.YtiopfihjmkfdmaaGreatDoor
open Go.RowKit
open Sp (Sm Bl Ct Tr)
set_option maxRecDepth 100000
set_option maxHeartbeats 8000000

theorem FE.asks {base b pb : Nat} {s : ByteArray} {er : Nat × Nat} {p : FP} {w : World} (h : FE base b pb s er p w) : ∃ (q : Int) (t : ByteArray), w.cell? ⟨b, 6, none⟩ = some (.int .i64 q) ∧ (q == 0) = false ∧ ¬ q = 0 ∧ w.cell? ⟨b, 3, none⟩ = some (.string t) := by
  obtain ⟨i, l0, o, hb, _⟩ := h.blk
  have := h.nz
  exact ⟨er.1, _, cell_of hb 6 rfl, by simp; omega, by omega, cell_of hb 3 rfl⟩

theorem product_idle (base b pb : Nat) (s : ByteArray) : FIdle 175 base b pb s 0 := by
  intro er p w h
  obtain ⟨q, t, c6, hz, hz2, c3⟩ := h.asks
  go_enter Tryz.func175, Tryz.ntmps175
  go_wp2_with fail
  refine (unary_idle base b pb s er p w h).mono ?_
  rintro e w1 ⟨rfl, rfl⟩
  go_wp2_with fail
  go_loopw [3] (fun a wr => a = .int .i64 0 ∧ wr = w1) (fun _ _ => 0)
  case atStart => exact ⟨rfl, rfl⟩
  case round =>
    obtain ⟨rfl, rfl⟩ := hrel
    go_wp2_with fail
    go_ret
    exact ⟨rfl, rfl⟩

/-- the loop's state -/
def FCur (base b pb : Nat) (s : ByteArray) (o : Nat) (p0 : FP) (l0 : Sp.Bs) (w0 : World) (lv : Nat) (u : Sp.Bs → Sp.R Sm) (fin : Sp.R Sm) (k : Int) (w : World) : Prop :=
  ∃ (cur : Sp.R Sm) (p : FP), FX base b pb s (left cur) (o : Int) p w ∧ FK b pb p0 p w0 w ∧ FGotS p0 p l0 k cur ∧ FChain lv u fin cur

theorem FX.drew {base b pb : Nat} {s : ByteArray} {r : Except (Nat × Nat) Sp.Bs} {o : Int} {p : FP} {w : World} (h : FX base b pb s r o p w) : FX base b pb s r o p w.drew := h.after (Below.refl _ _).drew
theorem FK.drew {b pb : Nat} {p p' : FP} {w w' : World} (h : FK b pb p p' w w') : FK b pb p p' w w'.drew := ⟨h.os, h.tape, h.output, h.size, h.rowN, h.rowQ, h.block⟩

theorem room_of {p p' : FP} {l : Sp.Bs} {k : Int} {r : Sp.R Sm} (g : FGotS p p' l k r) (hl : FLim p l) : p'.ns.length + 1 ≤ 1000000 := by
  obtain ⟨h1, h2, _⟩ := hl
  rcases r with e | ⟨x, l1⟩
  · have := (show FBad p p' l from g).2; omega
  · have := g.1.nl; omega

theorem round_left {base b pb : Nat} {s : ByteArray} {op : Nat} {x : Sm} {r : Sp.R Sm} {o : Int} {p : FP} {w : World} (h : FX base b pb s (left r) o p w) : FX base b pb s (left (roundOf op x r)) o p w := by
  rcases r with e | ⟨y, l⟩ <;> exact h

theorem round_dec {op : Nat} {x y : Sm} {l l' : Sp.Bs} {u : Sp.Bs → Sp.R Sm} (hdec : ∀ l x l1, u l = .ok (x, l1) → l1.length ≤ l.length) (hop : Sp.opOf (Sp.tok l) = some op) (h : roundOf op x (u (Sp.next l)) = .ok (y, l')) : l'.length < l.length := by
  have hn := opOf_next hop
  rcases hu : u (Sp.next l) with e | ⟨z, l1⟩
  · rw [hu] at h; cases h
  · rw [hu] at h
    have := hdec _ _ _ hu
    cases h
    omega

theorem fproduct_reads (base b pb : Nat) (s : ByteArray) (o n : Nat) (u : Sp.Bs → Sp.R Sm) (hdec : ∀ l x l1, u l = .ok (x, l1) → l1.length ≤ l.length) (hr : FReads 210 base b pb s o n u) : FReads 175 base b pb s o n (Sp.pProd Tr u) := by
  intro l p w hl h hlim
  have HR : Hid (FReads 210 base b pb s o n u) := hr
  have HD : Hid (∀ l x l1, u l = .ok (x, l1) → l1.length ≤ l.length) := hdec
  have hE : Hid (Sp.pProd Tr u l = Sp.pWith Tr 1 u l) := rfl
  clear hr hdec
  go_enter Tryz.func175, Tryz.ntmps175
  go_wp2_with fail
  refine (HR.out l p w hl h hlim).mono ?_
  rintro e w1 ⟨k, p1, rfl, h1, k1, g1⟩
  have HC : Hid (FCur base b pb s o p l w 1 u (Sp.pWith Tr 1 u l) k w1) := ⟨u l, p1, h1, k1, g1, chain_start⟩
  clear h1 k1 g1 h
  go_wp2_with fail
  go_loopw [3] (fun a wr => ∃ k : Int, a = .int .i64 k ∧ Hid (FCur base b pb s o p l w 1 u (Sp.pWith Tr 1 u l) k wr)) (fun _ wr => fRest b s wr)
  case atStart => exact ⟨k, rfl, HC⟩
  case round =>
    obtain ⟨k, rfl, hcur⟩ := hrel
    obtain ⟨cur, pc, hx, hk, hg, hch⟩ := hcur.out
    rcases cur with er | ⟨x, lc⟩
    · obtain ⟨q, t, c6, hz, hz2, c3⟩ := FE.asks (show FE base b pb s er pc wr from hx)
      have HF : Hid (FPostS base b pb s o p l w (Sp.pProd Tr u l) (.returned (.int .i64 k)) wr) := by
        unfold Hid; rw [hE.out, chain_error hch]; exact ⟨k, pc, rfl, hx, hk, hg⟩
      clear hx hk hg hch hcur HC
      go_wp2_with fail
      go_ret
      exact HF.out
    · have hfr : FR base b pb s lc (o : Int) pc wr := hx
      obtain ⟨c6, c3, hsz, hl4⟩ := hfr.asks
      by_cases hop : Sp.tok lc = [42] ∨ Sp.tok lc = [47] ∨ Sp.tok lc = [37]
      · have hlc : lc.length ≤ l.length := by have := hg.1.nl; have := hg.1.len; omega
        have HL0 : Hid (FLim pc lc) := hg.1.lim hlim
        have HW : Hid (fRest b s wr = lc.length + 1) := hfr.rest
        rcases hop with ht | ht | ht
        · have hop : Sp.opOf (Sp.tok lc) = some 2 := by rw [ht]; rfl
          have HG : Hid (FGotS p pc l k (.ok (x, lc)) ∧ Sp.opOf (Sp.tok lc) = some 2 ∧ Sp.tok lc = [42] ∧ FChain 1 u (Sp.pWith Tr 1 u l) (roundOf 2 x (u (Sp.next lc)))) := ⟨hg, hop, ht, chain_next hch hop rfl HD.out⟩
          have hnx := opOf_next hop
          have HL : Hid (FLim pc (Sp.next lc)) := (FMade.eat (by omega)).lim HL0.out
          rw [ht] at c3
          clear hop ht hsz hch hg hx hcur HC HL0
          go_wp2_with fail
          refine (fstep_fr hfr).mono ?_
          rintro e w2 ⟨rfl, h2, k2⟩
          go_wp2_with fail
          refine (HR.out (Sp.next lc) pc w2 (by omega) h2 HL.out).mono ?_
          rintro e w3 ⟨k3, p3, rfl, h3, k3', g3⟩
          have hroom := room_of g3 HL.out
          have H3 : Hid (_ ∧ _ ∧ _) := ⟨h3, k3', g3⟩
          clear h3 k3' g3
          go_wp2_with fail
          refine (two_calls H3.out.1 k k3 (-1) [42] hroom).mono ?_
          rintro e w4 ⟨rfl, v, h4, k4⟩
          have G := round_got (v := v) (n := { kind := 4, a := k, b := k3, sign := [42], site := (-1) }) HG.out.1 HG.out.2.1 rfl rfl rfl H3.out.2.2 rfl rfl rfl HG.out.2.2.1.symm (fun h => absurd h (by decide))
          have hfx : FX base b pb s (left (roundOf 2 x (u (Sp.next lc)))) (o : Int) _ w4 := round_left h4
          have hrest := hfx.rest_le (m := lc.length) (fun y l' e => round_dec HD.out HG.out.2.1 e)
          have HC2 : Hid (FCur base b pb s o p l w 1 u (Sp.pWith Tr 1 u l) (p3.ns.length : Nat) w4) := ⟨_, _, hfx, ((hk.trans k2).trans H3.out.2.1).trans k4, G, HG.out.2.2.2⟩
          clear G hfx h4 k4
          go_wp2_with fail
          exact ⟨⟨_, rfl, HC2⟩, by rw [HW.out]; omega⟩
        · have hop : Sp.opOf (Sp.tok lc) = some 3 := by rw [ht]; rfl
          have HG : Hid (FGotS p pc l k (.ok (x, lc)) ∧ Sp.opOf (Sp.tok lc) = some 3 ∧ Sp.tok lc = [47] ∧ FChain 1 u (Sp.pWith Tr 1 u l) (roundOf 3 x (u (Sp.next lc)))) := ⟨hg, hop, ht, chain_next hch hop rfl HD.out⟩
          have hnx := opOf_next hop
          have c4 := cell_of hfr.blk 4 (v := .pointer (some ⟨pb, 0, none⟩)) rfl
          have d3 := cell_of hfr.prog.blk 3 (v := .int .i64 pc.ct.2) rfl
          have f3 := frozen_of hfr.prog.blk 3
          obtain ⟨hs1, hs2⟩ := FX.set_prog (r := .ok lc) (p' := { pc with ct := Sp.siteUp pc.ct }) hfr 3 (.int .i64 (RowKit.wrap64 (pc.ct.2 + 1))) (fp_site hfr.prog.blk _) rfl rfl rfl rfl
          have HS : Hid (FR base b pb s lc (o : Int) { pc with ct := Sp.siteUp pc.ct } (wr.setCell ⟨pb, 3, none⟩ (.int .i64 (RowKit.wrap64 (pc.ct.2 + 1)))).drew ∧ FK b pb pc { pc with ct := Sp.siteUp pc.ct } wr (wr.setCell ⟨pb, 3, none⟩ (.int .i64 (RowKit.wrap64 (pc.ct.2 + 1)))).drew) := ⟨FX.drew (r := .ok lc) hs1, hs2.drew⟩
          have HL : Hid (FLim { pc with ct := Sp.siteUp pc.ct } (Sp.next lc)) := (FMade.eat (p := { pc with ct := Sp.siteUp pc.ct }) (l := lc) (by omega)).lim HL0.out
          rw [ht] at c3
          clear hop ht hsz hch hg hx hcur HC HL0 hs1 hs2
          go_wp2_with fail
          go_region_with (fail)
          all_goals
            go_wp2_with fail
            refine (fstep_fr HS.out.1).mono ?_
            rintro e w2 ⟨rfl, h2, k2⟩
            go_wp2_with fail
            refine (HR.out (Sp.next lc) { pc with ct := Sp.siteUp pc.ct } w2 (by omega) h2 HL.out).mono ?_
            rintro e w3 ⟨k3, p3, rfl, h3, k3', g3⟩
            have hroom := room_of g3 HL.out
            have H3 : Hid (_ ∧ _ ∧ _) := ⟨h3, k3', g3⟩
            clear h3 k3' g3
            go_wp2_with fail
            refine (two_calls H3.out.1 k k3 pc.ct.2 [47] hroom).mono ?_
            rintro e w4 ⟨rfl, v, h4, k4⟩
            have G := round_got (p2 := { pc with ct := Sp.siteUp pc.ct }) (v := v) (n := { kind := 4, a := k, b := k3, sign := [47], site := pc.ct.2 }) HG.out.1 HG.out.2.1 rfl rfl rfl H3.out.2.2 rfl rfl rfl HG.out.2.2.1.symm (fun _ => rfl)
            have hfx : FX base b pb s (left (roundOf 3 x (u (Sp.next lc)))) (o : Int) _ w4 := round_left h4
            have hrest := hfx.rest_le (m := lc.length) (fun y l' e => round_dec HD.out HG.out.2.1 e)
            have HC2 : Hid (FCur base b pb s o p l w 1 u (Sp.pWith Tr 1 u l) (p3.ns.length : Nat) w4) := ⟨_, _, hfx, ((hk.trans (HS.out.2.trans k2)).trans H3.out.2.1).trans k4, G, HG.out.2.2.2⟩
            clear G hfx h4 k4
            go_wp2_with fail
            exact ⟨⟨_, rfl, HC2⟩, by rw [HW.out]; omega⟩
        · have hop : Sp.opOf (Sp.tok lc) = some 4 := by rw [ht]; rfl
          have HG : Hid (FGotS p pc l k (.ok (x, lc)) ∧ Sp.opOf (Sp.tok lc) = some 4 ∧ Sp.tok lc = [37] ∧ FChain 1 u (Sp.pWith Tr 1 u l) (roundOf 4 x (u (Sp.next lc)))) := ⟨hg, hop, ht, chain_next hch hop rfl HD.out⟩
          have hnx := opOf_next hop
          have c4 := cell_of hfr.blk 4 (v := .pointer (some ⟨pb, 0, none⟩)) rfl
          have d3 := cell_of hfr.prog.blk 3 (v := .int .i64 pc.ct.2) rfl
          have f3 := frozen_of hfr.prog.blk 3
          obtain ⟨hs1, hs2⟩ := FX.set_prog (r := .ok lc) (p' := { pc with ct := Sp.siteUp pc.ct }) hfr 3 (.int .i64 (RowKit.wrap64 (pc.ct.2 + 1))) (fp_site hfr.prog.blk _) rfl rfl rfl rfl
          have HS : Hid (FR base b pb s lc (o : Int) { pc with ct := Sp.siteUp pc.ct } (wr.setCell ⟨pb, 3, none⟩ (.int .i64 (RowKit.wrap64 (pc.ct.2 + 1)))).drew ∧ FK b pb pc { pc with ct := Sp.siteUp pc.ct } wr (wr.setCell ⟨pb, 3, none⟩ (.int .i64 (RowKit.wrap64 (pc.ct.2 + 1)))).drew) := ⟨FX.drew (r := .ok lc) hs1, hs2.drew⟩
          have HL : Hid (FLim { pc with ct := Sp.siteUp pc.ct } (Sp.next lc)) := (FMade.eat (p := { pc with ct := Sp.siteUp pc.ct }) (l := lc) (by omega)).lim HL0.out
          rw [ht] at c3
          clear hop ht hsz hch hg hx hcur HC HL0 hs1 hs2
          go_wp2_with fail
          go_region_with (fail)
          all_goals
            go_wp2_with fail
            refine (fstep_fr HS.out.1).mono ?_
            rintro e w2 ⟨rfl, h2, k2⟩
            go_wp2_with fail
            refine (HR.out (Sp.next lc) { pc with ct := Sp.siteUp pc.ct } w2 (by omega) h2 HL.out).mono ?_
            rintro e w3 ⟨k3, p3, rfl, h3, k3', g3⟩
            have hroom := room_of g3 HL.out
            have H3 : Hid (_ ∧ _ ∧ _) := ⟨h3, k3', g3⟩
            clear h3 k3' g3
            go_wp2_with fail
            refine (two_calls H3.out.1 k k3 pc.ct.2 [37] hroom).mono ?_
            rintro e w4 ⟨rfl, v, h4, k4⟩
            have G := round_got (p2 := { pc with ct := Sp.siteUp pc.ct }) (v := v) (n := { kind := 4, a := k, b := k3, sign := [37], site := pc.ct.2 }) HG.out.1 HG.out.2.1 rfl rfl rfl H3.out.2.2 rfl rfl rfl HG.out.2.2.1.symm (fun _ => rfl)
            have hfx : FX base b pb s (left (roundOf 4 x (u (Sp.next lc)))) (o : Int) _ w4 := round_left h4
            have hrest := hfx.rest_le (m := lc.length) (fun y l' e => round_dec HD.out HG.out.2.1 e)
            have HC2 : Hid (FCur base b pb s o p l w 1 u (Sp.pWith Tr 1 u l) (p3.ns.length : Nat) w4) := ⟨_, _, hfx, ((hk.trans (HS.out.2.trans k2)).trans H3.out.2.1).trans k4, G, HG.out.2.2.2⟩
            clear G hfx h4 k4
            go_wp2_with fail
            exact ⟨⟨_, rfl, HC2⟩, by rw [HW.out]; omega⟩
      · have hst : Hid (Sp.pWith Tr 1 u l = .ok (x, lc)) := chain_stop hch (fun op ho => by
          unfold Sp.opOf at ho
          rw [if_neg (fun e => hop (.inl e)), if_neg (fun e => hop (.inr (.inl e))), if_neg (fun e => hop (.inr (.inr e)))] at ho
          split at ho
          · cases ho; simp [Sp.opLevel]
          · split at ho
            · cases ho; simp [Sp.opLevel]
            · cases ho)
        have HF : Hid (FPostS base b pb s o p l w (Sp.pProd Tr u l) (.returned (.int .i64 k)) wr) := by
          unfold Hid; rw [hE.out, hst.out]; exact ⟨k, pc, rfl, hx, hk, hg⟩
        have n1 : ((⟨(Sp.tok lc).toArray⟩ : ByteArray).toList == [42]) = false := by rw [ByteArray.toList_eq]; simpa using fun e => hop (.inl e)
        have n2 : ((⟨(Sp.tok lc).toArray⟩ : ByteArray).toList == [47]) = false := by rw [ByteArray.toList_eq]; simpa using fun e => hop (.inr (.inl e))
        have n3 : ((⟨(Sp.tok lc).toArray⟩ : ByteArray).toList == [37]) = false := by rw [ByteArray.toList_eq]; simpa using fun e => hop (.inr (.inr e))
        generalize (⟨(Sp.tok lc).toArray⟩ : ByteArray) = t at *
        clear hx hk hg hch hcur HC hop hfr
        go_wp2_with fail
        go_ret
        exact HF.out

end Go.Proofs.YtiopfihjmkfdmaaGreatDoor

/- THE DOCUMENT'S ANSWER: sum. -/
namespace Go.Proofs.YtiopfihjmkfdmaaGreatDoor
open Go.RowKit
open Sp (Sm Bl Ct Tr)
set_option maxRecDepth 100000
set_option maxHeartbeats 8000000

theorem sum_idle (base b pb : Nat) (s : ByteArray) : FIdle 135 base b pb s 0 := by
  intro er p w h
  obtain ⟨q, t, c6, hz, hz2, c3⟩ := h.asks
  go_enter Tryz.func135, Tryz.ntmps135
  go_wp2_with fail
  refine (product_idle base b pb s er p w h).mono ?_
  rintro e w1 ⟨rfl, rfl⟩
  go_wp2_with fail
  go_loopw [3] (fun a wr => a = .int .i64 0 ∧ wr = w1) (fun _ _ => 0)
  case atStart => exact ⟨rfl, rfl⟩
  case round =>
    obtain ⟨rfl, rfl⟩ := hrel
    go_wp2_with fail
    go_ret
    exact ⟨rfl, rfl⟩

theorem fsum_reads (base b pb : Nat) (s : ByteArray) (o n : Nat) (u : Sp.Bs → Sp.R Sm) (hdec : ∀ l x l1, u l = .ok (x, l1) → l1.length ≤ l.length) (hr : FReads 175 base b pb s o n u) : FReads 135 base b pb s o n (Sp.pWith Tr 0 u) := by
  intro l p w hl h hlim
  have HR : Hid (FReads 175 base b pb s o n u) := hr
  have HD : Hid (∀ l x l1, u l = .ok (x, l1) → l1.length ≤ l.length) := hdec
  clear hr hdec
  go_enter Tryz.func135, Tryz.ntmps135
  go_wp2_with fail
  refine (HR.out l p w hl h hlim).mono ?_
  rintro e w1 ⟨k, p1, rfl, h1, k1, g1⟩
  have HC : Hid (FCur base b pb s o p l w 0 u (Sp.pWith Tr 0 u l) k w1) := ⟨u l, p1, h1, k1, g1, chain_start⟩
  clear h1 k1 g1 h
  go_wp2_with fail
  go_loopw [3] (fun a wr => ∃ k : Int, a = .int .i64 k ∧ Hid (FCur base b pb s o p l w 0 u (Sp.pWith Tr 0 u l) k wr)) (fun _ wr => fRest b s wr)
  case atStart => exact ⟨k, rfl, HC⟩
  case round =>
    obtain ⟨k, rfl, hcur⟩ := hrel
    obtain ⟨cur, pc, hx, hk, hg, hch⟩ := hcur.out
    rcases cur with er | ⟨x, lc⟩
    · obtain ⟨q, t, c6, hz, hz2, c3⟩ := FE.asks (show FE base b pb s er pc wr from hx)
      have HF : Hid (FPostS base b pb s o p l w (Sp.pWith Tr 0 u l) (.returned (.int .i64 k)) wr) := by
        unfold Hid; rw [chain_error hch]; exact ⟨k, pc, rfl, hx, hk, hg⟩
      clear hx hk hg hch hcur HC
      go_wp2_with fail
      go_ret
      exact HF.out
    · have hfr : FR base b pb s lc (o : Int) pc wr := hx
      obtain ⟨c6, c3, hsz, hl4⟩ := hfr.asks
      by_cases hop : Sp.tok lc = [43] ∨ Sp.tok lc = [45]
      · have hlc : lc.length ≤ l.length := by have := hg.1.nl; have := hg.1.len; omega
        have HL0 : Hid (FLim pc lc) := hg.1.lim hlim
        have HW : Hid (fRest b s wr = lc.length + 1) := hfr.rest
        rcases hop with ht | ht
        · have hop : Sp.opOf (Sp.tok lc) = some 0 := by rw [ht]; rfl
          have HG : Hid (FGotS p pc l k (.ok (x, lc)) ∧ Sp.opOf (Sp.tok lc) = some 0 ∧ Sp.tok lc = [43] ∧ FChain 0 u (Sp.pWith Tr 0 u l) (roundOf 0 x (u (Sp.next lc)))) := ⟨hg, hop, ht, chain_next hch hop rfl HD.out⟩
          have hnx := opOf_next hop
          have HL : Hid (FLim pc (Sp.next lc)) := (FMade.eat (by omega)).lim HL0.out
          rw [ht] at c3
          clear hop ht hsz hch hg hx hcur HC HL0
          go_wp2_with fail
          refine (fstep_fr hfr).mono ?_
          rintro e w2 ⟨rfl, h2, k2⟩
          go_wp2_with fail
          refine (HR.out (Sp.next lc) pc w2 (by omega) h2 HL.out).mono ?_
          rintro e w3 ⟨k3, p3, rfl, h3, k3', g3⟩
          have hroom := room_of g3 HL.out
          have H3 : Hid (_ ∧ _ ∧ _) := ⟨h3, k3', g3⟩
          clear h3 k3' g3
          go_wp2_with fail
          refine (two_calls H3.out.1 k k3 (-1) [43] hroom).mono ?_
          rintro e w4 ⟨rfl, v, h4, k4⟩
          have G := round_got (v := v) (n := { kind := 4, a := k, b := k3, sign := [43], site := (-1) }) HG.out.1 HG.out.2.1 rfl rfl rfl H3.out.2.2 rfl rfl rfl HG.out.2.2.1.symm (fun h => absurd h (by decide))
          have hfx : FX base b pb s (left (roundOf 0 x (u (Sp.next lc)))) (o : Int) _ w4 := round_left h4
          have hrest := hfx.rest_le (m := lc.length) (fun y l' e => round_dec HD.out HG.out.2.1 e)
          have HC2 : Hid (FCur base b pb s o p l w 0 u (Sp.pWith Tr 0 u l) (p3.ns.length : Nat) w4) := ⟨_, _, hfx, ((hk.trans k2).trans H3.out.2.1).trans k4, G, HG.out.2.2.2⟩
          clear G hfx h4 k4
          go_wp2_with fail
          exact ⟨⟨_, rfl, HC2⟩, by rw [HW.out]; omega⟩
        · have hop : Sp.opOf (Sp.tok lc) = some 1 := by rw [ht]; rfl
          have HG : Hid (FGotS p pc l k (.ok (x, lc)) ∧ Sp.opOf (Sp.tok lc) = some 1 ∧ Sp.tok lc = [45] ∧ FChain 0 u (Sp.pWith Tr 0 u l) (roundOf 1 x (u (Sp.next lc)))) := ⟨hg, hop, ht, chain_next hch hop rfl HD.out⟩
          have hnx := opOf_next hop
          have HL : Hid (FLim pc (Sp.next lc)) := (FMade.eat (by omega)).lim HL0.out
          rw [ht] at c3
          clear hop ht hsz hch hg hx hcur HC HL0
          go_wp2_with fail
          refine (fstep_fr hfr).mono ?_
          rintro e w2 ⟨rfl, h2, k2⟩
          go_wp2_with fail
          refine (HR.out (Sp.next lc) pc w2 (by omega) h2 HL.out).mono ?_
          rintro e w3 ⟨k3, p3, rfl, h3, k3', g3⟩
          have hroom := room_of g3 HL.out
          have H3 : Hid (_ ∧ _ ∧ _) := ⟨h3, k3', g3⟩
          clear h3 k3' g3
          go_wp2_with fail
          refine (two_calls H3.out.1 k k3 (-1) [45] hroom).mono ?_
          rintro e w4 ⟨rfl, v, h4, k4⟩
          have G := round_got (v := v) (n := { kind := 4, a := k, b := k3, sign := [45], site := (-1) }) HG.out.1 HG.out.2.1 rfl rfl rfl H3.out.2.2 rfl rfl rfl HG.out.2.2.1.symm (fun h => absurd h (by decide))
          have hfx : FX base b pb s (left (roundOf 1 x (u (Sp.next lc)))) (o : Int) _ w4 := round_left h4
          have hrest := hfx.rest_le (m := lc.length) (fun y l' e => round_dec HD.out HG.out.2.1 e)
          have HC2 : Hid (FCur base b pb s o p l w 0 u (Sp.pWith Tr 0 u l) (p3.ns.length : Nat) w4) := ⟨_, _, hfx, ((hk.trans k2).trans H3.out.2.1).trans k4, G, HG.out.2.2.2⟩
          clear G hfx h4 k4
          go_wp2_with fail
          exact ⟨⟨_, rfl, HC2⟩, by rw [HW.out]; omega⟩
      · have hst : Hid (Sp.pWith Tr 0 u l = .ok (x, lc)) := chain_stop hch (fun op ho => by
          unfold Sp.opOf at ho
          rw [if_neg (fun e => hop (.inl e)), if_neg (fun e => hop (.inr e))] at ho
          repeat' split at ho
          all_goals first | (cases ho; simp [Sp.opLevel]) | cases ho)
        have HF : Hid (FPostS base b pb s o p l w (Sp.pWith Tr 0 u l) (.returned (.int .i64 k)) wr) := by
          unfold Hid; rw [hst.out]; exact ⟨k, pc, rfl, hx, hk, hg⟩
        have n1 : ((⟨(Sp.tok lc).toArray⟩ : ByteArray).toList == [43]) = false := by rw [ByteArray.toList_eq]; simpa using fun e => hop (.inl e)
        have n2 : ((⟨(Sp.tok lc).toArray⟩ : ByteArray).toList == [45]) = false := by rw [ByteArray.toList_eq]; simpa using fun e => hop (.inr e)
        generalize (⟨(Sp.tok lc).toArray⟩ : ByteArray) = t at *
        clear hx hk hg hch hcur HC hop hfr
        go_wp2_with fail
        go_ret
        exact HF.out

end Go.Proofs.YtiopfihjmkfdmaaGreatDoor
