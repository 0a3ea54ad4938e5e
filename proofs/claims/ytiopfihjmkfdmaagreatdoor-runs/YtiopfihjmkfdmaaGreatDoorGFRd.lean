/- THE DOCUMENT'S ANSWER: ITS READER IN MEMORY. -/
import Derived.Test.YtiopfihjmkfdmaaGreatDoorGScan
import Derived.Test.YtiopfihjmkfdmaaGreatDoorGRunA
namespace Go.Proofs.YtiopfihjmkfdmaaGreatDoor
open Go.RowKit
set_option maxRecDepth 100000
set_option maxHeartbeats 1000000

/-- all that lay in w but block b lies in w' as it was -/
structure Ext0 (b : Nat) (w w' : World) : Prop where
  os : w'.os = w.os
  tape : w'.tape = w.tape
  output : w'.output = w.output
  size : w.heap.size ≤ w'.heap.size
  block : ∀ k, k < w.heap.size → k ≠ b → w'.heap[k]? = w.heap[k]?

theorem Ext0.refl (b : Nat) (w : World) : Ext0 b w w := ⟨rfl, rfl, rfl, Nat.le_refl _, fun _ _ _ => rfl⟩

theorem Ext0.setCell {b : Nat} {w w' : World} (h : Ext0 b w w') {p : Addr} (hp : p.block = b ∨ w.heap.size ≤ p.block) (u : Value) : Ext0 b w (w'.setCell p u) :=
  ⟨h.os, h.tape, h.output, by have := h.size; simp [World.setCell]; omega, fun k hk hb => by
    rw [Below.heap_setCell _ _ _ _ (by rcases hp with rfl | hp <;> omega)]; exact h.block k hk hb⟩

theorem Ext0.of_below {b : Nat} {w w' : World} (h : Below w.heap.size w w') : Ext0 b w w' :=
  ⟨h.os, h.tape, h.output, h.size, fun k hk _ => h.block k hk⟩

/-- a node -/
structure FNode where
  kind : Int := 0
  a : Int := 0
  b : Int := 0
  c : Int := 0
  n : Int := 0
  next : Int := 0
  sign : Sp.Bs := []
  site : Int := 0
  point : Int := 0
  els : Bool := false

def fCell (x : FNode) : List Value := [.int .i64 x.kind, .int .i64 x.a, .int .i64 x.b, .int .i64 x.c, .int .i64 x.n, .int .i64 x.next, .string ⟨x.sign.toArray⟩, .int .i64 x.site, .int .i64 x.point, .bool x.els]
def fCells (ns : List FNode) : List Value := (ns.map fCell).flatten

/-- what is made so far: the nodes, points, sites, numbers; where their rows lie -/
structure FP where
  ns : List FNode
  ct : Int × Int
  qs : List Int
  nv : Value
  qv : Value

def fpCells (p : FP) (first : Int) : Array Value := #[p.nv, .int .i64 first, .int .i64 p.ct.1, .int .i64 p.ct.2, p.qv]

/-- the reader's cells -/
def frCells (s : ByteArray) (i at_ : Int) (t : ByteArray) (pb : Nat) (o er : Int) : Array Value :=
  #[.string s, .int .i64 i, .int .i64 at_, .string t, .pointer (some ⟨pb, 0, none⟩), .int .i64 o, .int .i64 er]

/-- the program's block and its rows -/
structure FPAt (base pb : Nat) (p : FP) (w : World) : Prop where
  blk : w.heap[pb]? = some (.cells (fpCells p 0) 105)
  rowN : w.ownsRow base 176 10 p.nv p.ns.length (fCells p.ns)
  rowQ : w.ownsRow base 3 1 p.qv p.qs.length (p.qs.map fun n => .int .i64 n)
  ge : base ≤ pb
  n5 : p.ns.length ≤ 1000000
  q5 : p.qs.length ≤ 1000000

/-- the reader at a token -/
structure FR (base b pb : Nat) (s : ByteArray) (l : Sp.Bs) (o : Int) (p : FP) (w : World) : Prop where
  blk : w.heap[b]? = some (.cells (frCells s ((s.size - l.length + Sp.tokLen l : Nat) : Int) ((s.size - l.length : Nat) : Int) ⟨(Sp.tok l).toArray⟩ pb o 0) 174)
  prog : FPAt base pb p w
  suf : l <:+ s.data.toList
  sz : s.size ≤ 400
  ge : base ≤ b
  ne : b ≠ pb

/-- the reader behind a fault -/
structure FE (base b pb : Nat) (s : ByteArray) (er : Nat × Nat) (p : FP) (w : World) : Prop where
  blk : ∃ (i : Int) (l : Sp.Bs) (o : Int), w.heap[b]? = some (.cells (frCells s i ((s.size - er.2 : Nat) : Int) ⟨(Sp.tok l).toArray⟩ pb o er.1) 174) ∧ l.length ≤ 400
  prog : FPAt base pb p w
  nz : er.1 ≠ 0
  ge : base ≤ b
  ne : b ≠ pb

/-- what a step of the reader keeps -/
structure FK (b pb : Nat) (p p' : FP) (w w' : World) : Prop where
  os : w'.os = w.os
  tape : w'.tape = w.tape
  output : w'.output = w.output
  size : w.heap.size ≤ w'.heap.size
  rowN : ∀ g, p'.nv.ownBlock = some g → p.nv.ownBlock = some g ∨ w.heap.size ≤ g
  rowQ : ∀ g, p'.qv.ownBlock = some g → p.qv.ownBlock = some g ∨ w.heap.size ≤ g
  block : ∀ k, k < w.heap.size → k ≠ b → k ≠ pb → p.nv.ownBlock ≠ some k → p.qv.ownBlock ≠ some k → w'.heap[k]? = w.heap[k]?

theorem FK.refl (b pb : Nat) (p : FP) (w : World) : FK b pb p p w w := ⟨rfl, rfl, rfl, Nat.le_refl _, fun _ h => .inl h, fun _ h => .inl h, fun _ _ _ _ _ _ => rfl⟩
theorem FK.trans {b pb : Nat} {p p1 p2 : FP} {w w1 w2 : World} (h : FK b pb p p1 w w1) (k : FK b pb p1 p2 w1 w2) : FK b pb p p2 w w2 := by
  have hs := h.size
  refine ⟨k.os.trans h.os, k.tape.trans h.tape, k.output.trans h.output, Nat.le_trans h.size k.size, ?_, ?_, ?_⟩
  · intro g hg
    rcases k.rowN g hg with h1 | h1
    · exact h.rowN g h1
    · exact .inr (by omega)
  · intro g hg
    rcases k.rowQ g hg with h1 | h1
    · exact h.rowQ g h1
    · exact .inr (by omega)
  · intro i hi h1 h2 h3 h4
    rw [k.block i (by omega) h1 h2 (fun e => by rcases h.rowN i e with e' | e'; exact h3 e'; omega) (fun e => by rcases h.rowQ i e with e' | e'; exact h4 e'; omega)]
    exact h.block i hi h1 h2 h3 h4
/-- only new blocks -/
theorem FK.of_below {b pb : Nat} {p : FP} {w w' : World} (h : Below w.heap.size w w') : FK b pb p p w w' :=
  ⟨h.os, h.tape, h.output, h.size, fun _ h => .inl h, fun _ h => .inl h, fun k hk _ _ _ _ => h.block k hk⟩
theorem FK.below {base b pb : Nat} {p p' : FP} {w w' : World} (h : FK b pb p p' w w') (hp : FPAt base pb p w) (hb : base ≤ b) (hw : base ≤ w.heap.size) : Below base w w' :=
  ⟨h.os, h.tape, h.output, h.size, fun k hk => h.block k (by omega) (by omega) (by have := hp.ge; omega) (fun e => by have := (ownsRow9_lt hp.rowN k e).1; omega) (fun e => by have := (ownsRow9_lt hp.rowQ k e).1; omega)⟩

theorem FR.len {base b pb : Nat} {s : ByteArray} {l : Sp.Bs} {o : Int} {p : FP} {w : World} (h : FR base b pb s l o p w) : l.length ≤ s.size := by
  have := h.suf.length_le
  simpa using this

/-- a row of nodes or numbers is neither of the two blocks -/
theorem FPAt.rows_ne {base b pb : Nat} {p : FP} {w : World} (h : FPAt base pb p w) {c : Array Value} {t : TypeId} (hb : w.heap[b]? = some (.cells c t)) (ht : t ≠ 176 ∧ t ≠ 3) : p.nv.ownBlock ≠ some b ∧ p.qv.ownBlock ≠ some b := by
  constructor
  · intro e
    obtain ⟨_, _, c', hc⟩ := ownsRow9_lt h.rowN b e
    rw [hb] at hc; cases hc; exact ht.1 rfl
  · intro e
    obtain ⟨_, _, c', hc⟩ := ownsRow9_lt h.rowQ b e
    rw [hb] at hc; cases hc; exact ht.2 rfl

/-- the program's part, where another block is written -/
theorem FPAt.set {base b pb : Nat} {p : FP} {w : World} (h : FPAt base pb p w) (i : Nat) (u : Value) (h1 : b ≠ pb) (h2 : p.nv.ownBlock ≠ some b) (h3 : p.qv.ownBlock ≠ some b) : FPAt base pb p (w.setCell ⟨b, i, none⟩ u) :=
  ⟨by rw [Below.heap_setCell _ _ _ _ (fun e => h1 e.symm)]; exact h.blk, ownsRow9_keep h.rowN (fun g hg => Below.heap_setCell _ _ _ _ (fun e => h2 (by rw [← show g = b from e]; exact hg))), ownsRow9_keep h.rowQ (fun g hg => Below.heap_setCell _ _ _ _ (fun e => h3 (by rw [← show g = b from e]; exact hg))), h.ge, h.n5, h.q5⟩

theorem FPAt.after {base pb : Nat} {p : FP} {w w' : World} (h : FPAt base pb p w) (hb : Below w.heap.size w w') : FPAt base pb p w' :=
  ⟨by rw [hb.block _ (heap_lt h.blk)]; exact h.blk, ownsRow9_keep h.rowN (fun g hg => hb.block g (ownsRow9_lt h.rowN g hg).2.1), ownsRow9_keep h.rowQ (fun g hg => hb.block g (ownsRow9_lt h.rowQ g hg).2.1), h.ge, h.n5, h.q5⟩

theorem FK.set {b pb : Nat} {p p' : FP} {w w' : World} (h : FK b pb p p' w w') (i : Nat) (u : Value) : FK b pb p p' w (w'.setCell ⟨b, i, none⟩ u) :=
  ⟨h.os, h.tape, h.output, by have := h.size; simp [World.setCell]; omega, h.rowN, h.rowQ, fun k hk h1 h2 h3 h4 => by rw [Below.heap_setCell _ _ _ _ h1]; exact h.block k hk h1 h2 h3 h4⟩

/- small functions -/
theorem fLetter_calls (c : UInt8) (w : World) : Calls Tryz.prog 95 #[.int .u8 c.toNat] w fun e w' => e = .returned (.bool (Sp.isLet c)) ∧ w' = w := by
  go_enter Tryz.func95, Tryz.ntmps95
  go_wp2
  all_goals
    go_ret
    exact ⟨ret_bool (by unfold Sp.isLet; rw [Bool.eq_iff_iff]; simp; omega), rfl⟩

theorem fDigit_calls (c : UInt8) (w : World) : Calls Tryz.prog 96 #[.int .u8 c.toNat] w fun e w' => e = .returned (.bool (Sp.isDig c)) ∧ w' = w := by
  go_enter Tryz.func96, Tryz.ntmps96
  go_wp2
  all_goals
    go_ret
    exact ⟨ret_bool (by unfold Sp.isDig; rw [Bool.eq_iff_iff]; simp; omega), rfl⟩

end Go.Proofs.YtiopfihjmkfdmaaGreatDoor

/- THE DOCUMENT'S ANSWER: sign, step. -/
namespace Go.Proofs.YtiopfihjmkfdmaaGreatDoor
open Go.RowKit
set_option maxRecDepth 100000
set_option maxHeartbeats 2000000

def fSome : ByteArray := ⟨#[60, 62, 61, 43, 45, 42, 47, 37, 40, 41, 123, 125, 59]⟩

theorem fSome_size : fSome.size = 13 := rfl
theorem fSome_list : fSome.data.toList = Sp.ones := rfl

theorem drop_cons (s : ByteArray) (i : Nat) (h : i < s.size) : s.data.toList.drop i = s[i] :: s.data.toList.drop (i + 1) := by
  rw [List.drop_eq_getElem_cons (by simpa using h)]; rfl

theorem signLen_drop (s : ByteArray) (i : Nat) (h : i < s.size) : Sp.signLen (s.data.toList.drop i) = if (∃ h1 : i + 1 < s.size, s[i + 1].toNat = 61) ∧ s[i] ∈ Sp.twos then 2 else if s[i] ∈ Sp.ones then 1 else 0 := by
  rw [drop_cons s i h, Sp.signLen_cons]
  have e : (s.data.toList.drop (i + 1)).head? = some 61 ↔ ∃ h1 : i + 1 < s.size, s[i + 1].toNat = 61 := by
    by_cases h1 : i + 1 < s.size
    · rw [drop_cons s (i + 1) h1]
      simp only [List.head?_cons, Option.some.injEq]
      constructor
      · intro e; exact ⟨h1, by rw [e]; rfl⟩
      · rintro ⟨_, e⟩; exact UInt8.toNat_inj.1 e
    · rw [List.drop_of_length_le (by simpa using h1)]
      simp [h1]
  by_cases hc : (∃ h1 : i + 1 < s.size, s[i + 1].toNat = 61) ∧ s[i] ∈ Sp.twos
  · rw [if_pos hc, if_pos ⟨e.2 hc.1, hc.2⟩]
  · rw [if_neg hc, if_neg (fun k => hc ⟨e.1 k.1, k.2⟩)]

theorem mem_twos (c : UInt8) : c ∈ Sp.twos ↔ ((c.toNat : Int) = 60 ∨ (c.toNat : Int) = 62 ∨ (c.toNat : Int) = 61 ∨ (c.toNat : Int) = 33) := by
  unfold Sp.twos
  simp only [List.mem_cons, List.not_mem_nil, or_false, ← UInt8.toNat_inj]
  show c.toNat = 60 ∨ c.toNat = 62 ∨ c.toNat = 61 ∨ c.toNat = 33 ↔ _
  omega

theorem ones_at (j : Nat) (h : j < fSome.size) : Sp.ones[j]? = some fSome[j] := by
  have := byte_at fSome j h
  rw [← fSome_list]; exact this

/-- the loop over the signs of one byte -/
theorem fSign_tail (s : ByteArray) (i : Nat) (h : i < s.size) (hs : s.size ≤ 400) (w : World) (ht : ¬ ((∃ h1 : i + 1 < s.size, s[i + 1].toNat = 61) ∧ s[i] ∈ Sp.twos)) :
    Calls Tryz.prog 97 #[.string s, .int .i64 i] w fun e w' => e = .returned (.int .i64 (Sp.signLen (s.data.toList.drop i))) ∧ Below w.heap.size w w' := by
  have hfin : Hid (Sp.signLen (s.data.toList.drop i) = if s[i] ∈ Sp.ones then 1 else 0) := by unfold Hid; rw [signLen_drop s i h, if_neg ht]
  have hii : (i : Int) < (s.size : Int) := by omega
  have hcases : (¬ (i : Int) + 1 < (s.size : Int)) ∨ (∃ h1 : i + 1 < s.size, (i : Int) + 1 < (s.size : Int) ∧ ¬ (s[i + 1].toNat : Int) = 61) ∨ (∃ h1 : i + 1 < s.size, (i : Int) + 1 < (s.size : Int) ∧ (s[i + 1].toNat : Int) = 61 ∧ ((s[i].toNat : Int) == 60) = false ∧ ((s[i].toNat : Int) == 62) = false ∧ ((s[i].toNat : Int) == 61) = false ∧ ((s[i].toNat : Int) == 33) = false) := by
    by_cases h1 : i + 1 < s.size
    · by_cases h61 : (s[i + 1].toNat : Int) = 61
      · have hn : ¬ s[i] ∈ Sp.twos := fun k => ht ⟨⟨h1, by omega⟩, k⟩
        rw [mem_twos] at hn
        exact .inr (.inr ⟨h1, by omega, h61, beq_eq_false_iff_ne.2 (fun e => hn (.inl e)), beq_eq_false_iff_ne.2 (fun e => hn (.inr (.inl e))), beq_eq_false_iff_ne.2 (fun e => hn (.inr (.inr (.inl e)))), beq_eq_false_iff_ne.2 (fun e => hn (.inr (.inr (.inr e))))⟩)
      · exact .inr (.inl ⟨h1, by omega, h61⟩)
    · exact .inl (by omega)
  clear ht
  rcases hcases with h1 | ⟨h1, h1i, h61⟩ | ⟨h1, h1i, h61, n1, n2, n3, n4⟩
  all_goals
    go_enter Tryz.func97, Tryz.ntmps97
    go_wp2_with fail
    have hSs := fSome_size
    have hones : Hid (∀ j (hj : j < fSome.size), Sp.ones[j]? = some fSome[j]) := ones_at
    rw [show (⟨#[60, 62, 61, 43, 45, 42, 47, 37, 40, 41, 123, 125, 59]⟩ : ByteArray) = fSome from rfl]
    generalize fSome = S at *
    go_loopw [6] (fun n wr => ∃ j : Nat, j ≤ 13 ∧ Hid (∀ q, q < j → Sp.ones[q]? ≠ some s[i]) ∧ n = .int .i64 j ∧ Hid (Below w.heap.size w wr)) (fun n _ => 13 - (intOf n).toNat)
    case atStart => exact ⟨0, Nat.zero_le _, fun q hq => absurd hq (Nat.not_lt_zero _), rfl, Below.refl _ _⟩
    case round =>
      obtain ⟨j, hj, hm, rfl, hB⟩ := hrel
      by_cases hjl : j < 13
      · have hji : (j : Int) < (S.size : Int) := by omega
        have hjn : j < S.size := by omega
        have hSi : (S.size : Int) = 13 := by omega
        by_cases he : (s[i].toNat : Int) = (S[j].toNat : Int)
        · have hE : Hid (Sp.signLen (s.data.toList.drop i) = 1) := by
            unfold Hid
            rw [hfin.out, if_pos]
            have h2 := hones.out j hjn
            have h3 : s[i] = S[j] := UInt8.toNat_inj.1 (by omega)
            rw [h3]
            exact List.mem_of_getElem? h2
          go_wp2_with fail
          go_region_with (fail)
          all_goals
            go_wp2_with fail
            go_ret
            exact ⟨by rw [hE.out]; rfl, hB.out.drew⟩
        · have hM : Hid (∀ q, q < j + 1 → Sp.ones[q]? ≠ some s[i]) := by
            intro q hq e
            by_cases hqj : q = j
            · subst hqj
              rw [hones.out q hjn] at e
              apply he
              have : S[q] = s[i] := Option.some.inj e
              rw [this]
            · exact hm.out q (by omega) e
          go_wp2_with fail
          go_region_with (fail)
          all_goals
            go_wp2_with fail
            exact ⟨⟨j + 1, by omega, hM, by go_num, hB.out.drew⟩, by simp [intOf]; omega⟩
      · have hji : ¬ (j : Int) < (S.size : Int) := by omega
        have hE : Hid (Sp.signLen (s.data.toList.drop i) = 0) := by
          unfold Hid
          rw [hfin.out, if_neg]
          intro hmem
          obtain ⟨q, hq⟩ := List.getElem?_of_mem hmem
          refine hm.out q ?_ hq
          have := (List.getElem?_eq_some_iff.1 hq).1
          have h13 : Sp.ones.length = 13 := rfl
          omega
        go_wp2_with fail
        go_ret
        exact ⟨by rw [hE.out]; rfl, hB.out⟩

theorem fSign_calls (s : ByteArray) (i : Nat) (h : i < s.size) (hs : s.size ≤ 400) (w : World) :
    Calls Tryz.prog 97 #[.string s, .int .i64 i] w fun e w' => e = .returned (.int .i64 (Sp.signLen (s.data.toList.drop i))) ∧ Below w.heap.size w w' := by
  by_cases ht : (∃ h1 : i + 1 < s.size, s[i + 1].toNat = 61) ∧ s[i] ∈ Sp.twos
  · have hfin : Hid (Sp.signLen (s.data.toList.drop i) = 2) := by unfold Hid; rw [signLen_drop s i h, if_pos ht]
    obtain ⟨⟨h1, h61⟩, hm⟩ := ht
    have h1i : (i : Int) + 1 < (s.size : Int) := by omega
    have h61i : (s[i + 1].toNat : Int) = 61 := by omega
    have hii : (i : Int) < (s.size : Int) := by omega
    rw [mem_twos] at hm
    rcases (show (s[i].toNat : Int) = 60 ∨ (¬ (s[i].toNat : Int) = 60 ∧ (s[i].toNat : Int) = 62) ∨ (¬ (s[i].toNat : Int) = 60 ∧ ¬ (s[i].toNat : Int) = 62 ∧ (s[i].toNat : Int) = 61) ∨ (¬ (s[i].toNat : Int) = 60 ∧ ¬ (s[i].toNat : Int) = 62 ∧ ¬ (s[i].toNat : Int) = 61 ∧ (s[i].toNat : Int) = 33) from by omega) with k1 | ⟨k1, k2⟩ | ⟨k1, k2, k3⟩ | ⟨k1, k2, k3, k4⟩
    all_goals
      clear hm h61
      go_enter Tryz.func97, Tryz.ntmps97
      go_wp2_with fail
      go_ret
      exact ⟨by rw [hfin.out]; rfl, Below.refl _ _⟩
  · exact fSign_tail s i h hs w ht

end Go.Proofs.YtiopfihjmkfdmaaGreatDoor
