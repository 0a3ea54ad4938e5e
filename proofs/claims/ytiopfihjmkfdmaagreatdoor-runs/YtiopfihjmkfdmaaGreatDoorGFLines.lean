/- THE DOCUMENT'S ANSWER: lines. -/
import Derived.Test.YtiopfihjmkfdmaaGreatDoorGFShow
namespace Go.Proofs.YtiopfihjmkfdmaaGreatDoor
open Go.RowKit
open Sp (Sm Bl Ct Tr)
set_option maxRecDepth 2000000
set_option maxHeartbeats 4000000

/-- the text of statements, so many blocks deep -/
def txtB (d : Nat) (b : Bl) : Sp.Bs := Sp.lines d (Sp.foldB Sp.Pr b)

theorem txtB_nil (d : Nat) : txtB d .nil = [] := rfl
theorem txtB_assign (d k : Nat) (x : Sm) (r : Bl) : txtB d (.assign k x r) = (Sp.pad d ++ Sp.letter k ++ [32, 61, 32] ++ txt x ++ [59, 10]) ++ txtB d r := rfl
theorem txtB_read (d k : Nat) (r : Bl) : txtB d (.read k r) = (Sp.pad d ++ [114, 101, 97, 100, 32] ++ Sp.letter k ++ [59, 10]) ++ txtB d r := rfl
theorem txtB_assert (d k : Nat) (x y : Sm) (r : Bl) : txtB d (.assert k x y r) = (Sp.pad d ++ [97, 115, 115, 101, 114, 116, 32] ++ ctxt k x y ++ [59, 10]) ++ txtB d r := rfl
theorem txtB_loop (d k : Nat) (x y : Sm) (xs r : Bl) : txtB d (.loop k x y xs r) = (Sp.pad d ++ [119, 104, 105, 108, 101, 32] ++ ctxt k x y ++ [32, 123, 10] ++ txtB (d + 1) xs ++ Sp.pad d ++ [125, 10]) ++ txtB d r := rfl
theorem txtB_else (d k : Nat) (x y : Sm) (xs ys r : Bl) : txtB d (.ite k x y xs true ys r) = (Sp.pad d ++ [105, 102, 32] ++ ctxt k x y ++ [32, 123, 10] ++ txtB (d + 1) xs ++ (Sp.pad d ++ [125, 32, 101, 108, 115, 101, 32, 123, 10] ++ txtB (d + 1) ys) ++ Sp.pad d ++ [125, 10]) ++ txtB d r := rfl
theorem txtB_if (d k : Nat) (x y : Sm) (xs ys r : Bl) : txtB d (.ite k x y xs false ys r) = (Sp.pad d ++ [105, 102, 32] ++ ctxt k x y ++ [32, 123, 10] ++ txtB (d + 1) xs ++ [] ++ Sp.pad d ++ [125, 10]) ++ txtB d r := rfl

/-- lines, of the statements b from node k on -/
def FLine (pb g cap : Nat) (ns : List FNode) (b : Bl) (k : Int) : Prop := ∀ (d : Nat) (pad : ByteArray) (w : World), pad.data.toList = Sp.pad d → (txtB d b).length ≤ 2000000 → pad.size ≤ 2000000 → FLook pb g cap ns w →
  Calls Tryz.prog 41 #[.pointer (some ⟨pb, 0, none⟩), .int .i64 k, .string pad] w fun e w' => ∃ t : ByteArray, e = .returned (.string t) ∧ t.data.toList = txtB d b ∧ Below w.heap.size w w'

/-- how great a tree is -/
def szB : Bl → Nat
  | .nil => 0
  | .assign _ _ r => szB r + 1
  | .read _ r => szB r + 1
  | .assert _ _ _ r => szB r + 1
  | .ite _ _ _ xs _ ys r => szB xs + szB ys + szB r + 1
  | .loop _ _ _ xs r => szB xs + szB r + 1

/-- in the midst of lines -/
def LCur (pb g cap : Nat) (ns : List FNode) (lo hi d : Nat) (b : Bl) (w : World) (kk : Int) (s : ByteArray) (wr : World) : Prop :=
  ∃ (b' : Bl) (c1 c2 : Ct), FBl ns lo hi b' kk c1 c2 ∧ s.data.toList ++ txtB d b' = txtB d b ∧ Below w.heap.size w wr ∧ szB b' ≤ szB b ∧ FLook pb g cap ns wr

theorem line_next {d : Nat} {b b' r : Bl} {s s' : ByteArray} {x : Sp.Bs} (h : s.data.toList ++ txtB d b' = txtB d b) (hx : txtB d b' = x ++ txtB d r) (hs' : s'.data.toList = s.data.toList ++ x) (h0 : 0 < x.length) :
    s'.data.toList ++ txtB d r = txtB d b ∧ (txtB d b).length - s'.size < (txtB d b).length - s.size := by
  rw [hx] at h
  have e1 := size_list s
  have e2 := size_list s'
  have e3 := congrArg List.length h
  have e4 := congrArg List.length hs'
  simp only [List.length_append] at e3 e4
  refine ⟨by rw [hs', List.append_assoc]; exact h, by omega⟩

theorem line_room {d : Nat} {b b' : Bl} {s : ByteArray} (h : s.data.toList ++ txtB d b' = txtB d b) (hB : (txtB d b).length ≤ 2000000) : s.size + (txtB d b').length ≤ 2000000 := by
  have e1 := size_list s
  have e3 := congrArg List.length h
  simp only [List.length_append] at e3
  omega

/-- the indented one -/
theorem pad_more {pad : ByteArray} {d : Nat} (h : pad.data.toList = Sp.pad d) : (pad ++ (⟨#[32, 32]⟩ : ByteArray)).data.toList = Sp.pad (d + 1) := by
  have : Sp.pad (d + 1) = Sp.pad d ++ [32, 32] := by
    unfold Sp.pad
    rw [show 2 * (d + 1) = 2 * d + 1 + 1 by omega, List.replicate_succ', List.replicate_succ', List.append_assoc]; rfl
  rw [this, ← h]; simp

theorem letter_byte (v : Nat) : Sp.letter v = [97 + UInt8.ofNat v] := by simp [Sp.letter, UInt8.ofNat_add]

theorem line_read {d v : Nat} {b r : Bl} {s pad : ByteArray} (h : s.data.toList ++ txtB d (.read v r) = txtB d b) (hp : pad.data.toList = Sp.pad d) :
    (s ++ pad ++ (⟨#[114, 101, 97, 100, 32]⟩ : ByteArray) ++ (⟨#[97 + UInt8.ofNat v]⟩ : ByteArray) ++ (⟨#[59, 10]⟩ : ByteArray)).data.toList ++ txtB d r = txtB d b ∧ (txtB d b).length - (s ++ pad ++ (⟨#[114, 101, 97, 100, 32]⟩ : ByteArray) ++ (⟨#[97 + UInt8.ofNat v]⟩ : ByteArray) ++ (⟨#[59, 10]⟩ : ByteArray)).size < (txtB d b).length - s.size :=
  line_next h (txtB_read d v r) (by simp [hp, letter_byte]) (by simp; omega)
theorem line_assign {d v : Nat} {x : Sm} {b r : Bl} {s pad t : ByteArray} (h : s.data.toList ++ txtB d (.assign v x r) = txtB d b) (hp : pad.data.toList = Sp.pad d) (ht : t.data.toList = txt x) :
    (s ++ pad ++ (⟨#[97 + UInt8.ofNat v]⟩ : ByteArray) ++ (⟨#[32, 61, 32]⟩ : ByteArray) ++ t ++ (⟨#[59, 10]⟩ : ByteArray)).data.toList ++ txtB d r = txtB d b ∧ (txtB d b).length - (s ++ pad ++ (⟨#[97 + UInt8.ofNat v]⟩ : ByteArray) ++ (⟨#[32, 61, 32]⟩ : ByteArray) ++ t ++ (⟨#[59, 10]⟩ : ByteArray)).size < (txtB d b).length - s.size :=
  line_next h (txtB_assign d v x r) (by simp [hp, ht, letter_byte]) (by simp; omega)
theorem line_assert {d rel : Nat} {x y : Sm} {b r : Bl} {s pad t : ByteArray} (h : s.data.toList ++ txtB d (.assert rel x y r) = txtB d b) (hp : pad.data.toList = Sp.pad d) (ht : t.data.toList = ctxt rel x y) :
    (s ++ pad ++ (⟨#[97, 115, 115, 101, 114, 116, 32]⟩ : ByteArray) ++ t ++ (⟨#[59, 10]⟩ : ByteArray)).data.toList ++ txtB d r = txtB d b ∧ (txtB d b).length - (s ++ pad ++ (⟨#[97, 115, 115, 101, 114, 116, 32]⟩ : ByteArray) ++ t ++ (⟨#[59, 10]⟩ : ByteArray)).size < (txtB d b).length - s.size :=
  line_next h (txtB_assert d rel x y r) (by simp [hp, ht]) (by simp; omega)
theorem line_loop {d rel : Nat} {x y : Sm} {b xs r : Bl} {s pad t u : ByteArray} (h : s.data.toList ++ txtB d (.loop rel x y xs r) = txtB d b) (hp : pad.data.toList = Sp.pad d) (ht : t.data.toList = ctxt rel x y) (hu : u.data.toList = txtB (d + 1) xs) :
    (s ++ pad ++ (⟨#[119, 104, 105, 108, 101, 32]⟩ : ByteArray) ++ t ++ (⟨#[32, 123, 10]⟩ : ByteArray) ++ u ++ pad ++ (⟨#[125, 10]⟩ : ByteArray)).data.toList ++ txtB d r = txtB d b ∧ (txtB d b).length - (s ++ pad ++ (⟨#[119, 104, 105, 108, 101, 32]⟩ : ByteArray) ++ t ++ (⟨#[32, 123, 10]⟩ : ByteArray) ++ u ++ pad ++ (⟨#[125, 10]⟩ : ByteArray)).size < (txtB d b).length - s.size :=
  line_next h (txtB_loop d rel x y xs r) (by simp [hp, ht, hu]) (by simp; omega)
theorem line_if {d rel : Nat} {x y : Sm} {b xs ys r : Bl} {s pad t u : ByteArray} (h : s.data.toList ++ txtB d (.ite rel x y xs false ys r) = txtB d b) (hp : pad.data.toList = Sp.pad d) (ht : t.data.toList = ctxt rel x y) (hu : u.data.toList = txtB (d + 1) xs) :
    (s ++ pad ++ (⟨#[105, 102, 32]⟩ : ByteArray) ++ t ++ (⟨#[32, 123, 10]⟩ : ByteArray) ++ u ++ pad ++ (⟨#[125, 10]⟩ : ByteArray)).data.toList ++ txtB d r = txtB d b ∧ (txtB d b).length - (s ++ pad ++ (⟨#[105, 102, 32]⟩ : ByteArray) ++ t ++ (⟨#[32, 123, 10]⟩ : ByteArray) ++ u ++ pad ++ (⟨#[125, 10]⟩ : ByteArray)).size < (txtB d b).length - s.size :=
  line_next h (txtB_if d rel x y xs ys r) (by simp [hp, ht, hu]) (by simp; omega)
theorem line_else {d rel : Nat} {x y : Sm} {b xs ys r : Bl} {s pad t u v : ByteArray} (h : s.data.toList ++ txtB d (.ite rel x y xs true ys r) = txtB d b) (hp : pad.data.toList = Sp.pad d) (ht : t.data.toList = ctxt rel x y) (hu : u.data.toList = txtB (d + 1) xs) (hv : v.data.toList = txtB (d + 1) ys) :
    (s ++ pad ++ (⟨#[105, 102, 32]⟩ : ByteArray) ++ t ++ (⟨#[32, 123, 10]⟩ : ByteArray) ++ u ++ pad ++ (⟨#[125, 32, 101, 108, 115, 101, 32, 123, 10]⟩ : ByteArray) ++ v ++ pad ++ (⟨#[125, 10]⟩ : ByteArray)).data.toList ++ txtB d r = txtB d b ∧ (txtB d b).length - (s ++ pad ++ (⟨#[105, 102, 32]⟩ : ByteArray) ++ t ++ (⟨#[32, 123, 10]⟩ : ByteArray) ++ u ++ pad ++ (⟨#[125, 32, 101, 108, 115, 101, 32, 123, 10]⟩ : ByteArray) ++ v ++ pad ++ (⟨#[125, 10]⟩ : ByteArray)).size < (txtB d b).length - s.size :=
  line_next h (txtB_else d rel x y xs ys r) (by simp [hp, ht, hu, hv]) (by simp; omega)

end Go.Proofs.YtiopfihjmkfdmaaGreatDoor

/- THE DOCUMENT'S ANSWER: lines, walked. -/
namespace Go.Proofs.YtiopfihjmkfdmaaGreatDoor
open Go.RowKit
open Sp (Sm Bl Ct Tr)
set_option maxRecDepth 2000000
set_option maxHeartbeats 8000000

theorem flines_step {pb g cap : Nat} {ns : List FNode} {lo hi : Nat} {b : Bl} {k : Int} {ct ct' : Ct} (hbl : FBl ns lo hi b k ct ct') (IH : ∀ (b' : Bl) (k' : Int) (c1 c2 : Ct), szB b' < szB b → FBl ns lo hi b' k' c1 c2 → FLine pb g cap ns b' k') : FLine pb g cap ns b k := by
  intro d pad w hp hB hps h
  have HIH : Hid (∀ (b' : Bl) (k' : Int) (c1 c2 : Ct), szB b' < szB b → FBl ns lo hi b' k' c1 c2 → FLine pb g cap ns b' k') := IH
  have HC : Hid (LCur pb g cap ns lo hi d b w k ⟨#[]⟩ w) := ⟨b, ct, ct', hbl, by simp, Below.refl _ _, Nat.le_refl _, h⟩
  have HP : Hid (pad.data.toList = Sp.pad d) := hp
  have HBB : Hid ((txtB d b).length ≤ 2000000) := hB
  clear hbl IH hp hB h
  go_enter Tryz.func41, Tryz.ntmps41
  go_wp2_with fail
  go_loopw [1, 7] (fun a c wr => ∃ (kk : Int) (s : ByteArray), a = .int .i64 kk ∧ c = .string s ∧ Hid (LCur pb g cap ns lo hi d b w kk s wr)) (fun _ c _ => (txtB d b).length - (match c with | .string s => s.size | _ => 0))
  case atStart => exact ⟨k, _, rfl, rfl, HC⟩
  case round =>
    obtain ⟨kk, s, rfl, rfl, hcur⟩ := hrel
    obtain ⟨b', c1, c2, hbl, htx, hbel, hsz, hlook⟩ := hcur.out
    have c0 := hlook.slice
    have h1 := hlook.hcap
    have h2 := hlook.hmax
    have h3 := hlook.hn
    have HL : Hid (FLook pb g cap ns wr) := hlook
    have HBL : Hid (Below w.heap.size w wr) := hbel
    clear hcur HC hlook hbel
    cases b' with
    | nil =>
      obtain ⟨rfl, _⟩ := hbl
      have HT : Hid (s.data.toList = txtB d b) := by rw [txtB_nil, List.append_nil] at htx; exact htx
      go_wp2_with fail
      go_ret
      exact ⟨s, rfl, HT.out, HBL.out⟩
    | read v r =>
      obtain ⟨j, dd, rfl, _, _, hd, _, hk, hn, hv, hrest⟩ := hbl
      obtain ⟨hlt, r0, r1, r2, r3, r4, r5, r6, r7, r8, r9⟩ := HL.out.facts hd
      rw [hk] at r0
      rw [hn] at r4
      have hc := fun (o : Obj) => conv_byte_at (wr.alloc o) (wr.heap.size + 1) (by simp) (97 + (v : Int))
      have hss : s.size ≤ 2000000 := by have := line_room htx HBB.out; omega
      have HN : Hid (_ ∧ _) := line_read htx HP.out
      have HR : Hid (FBl ns lo hi r dd.next (Sp.ptUp c1) c2) := hrest
      have HS : Hid (szB r ≤ szB b) := Nat.le_trans (by show szB r ≤ szB r + 1; omega) hsz
      clear htx hd hrest hsz
      go_wp2_with fail
      exact ⟨⟨_, _, rfl, rfl, ⟨r, _, _, HR.out, HN.out.1, HBL.out.trans ((below_box (below_alloc1 _ _)).mono HBL.out.size), HS.out, HL.out.after (below_box (below_alloc1 _ _))⟩⟩, HN.out.2⟩
    | assign v x r =>
      obtain ⟨j, a, dd, c3, rfl, _, _, hd, _, hk, hn, hv, ha, _, hx, hrest⟩ := hbl
      obtain ⟨hlt, r0, r1, r2, r3, r4, r5, r6, r7, r8, r9⟩ := HL.out.facts hd
      rw [hk] at r0
      rw [hn] at r4
      rw [ha] at r1
      have hc := fun (o : Obj) => conv_byte_at (wr.alloc o) (wr.heap.size + 1) (by simp) (97 + (v : Int))
      have hroom := line_room htx HBB.out
      rw [txtB_assign] at hroom
      simp only [List.length_append] at hroom
      have hss : s.size ≤ 2000000 := by omega
      have HX : Hid ((txt x).length ≤ 2000000) := by unfold Hid; omega
      have HI : Hid (∀ w', Below wr.heap.size wr w' → Calls Tryz.prog 68 #[.pointer (some ⟨pb, 0, none⟩), .int .i64 (a : Int), .int .i64 1] w' fun e w'' => ∃ t : ByteArray, e = .returned (.string t) ∧ t.data.toList = txt x ∧ Below w'.heap.size w' w'') := fun w' hb => by
        have := fshow_calls (pb := pb) (g := g) (cap := cap) hx 1 w' (by omega) (by omega) (by rw [prt_zero]; exact HX.out) (HL.out.after hb)
        rw [prt_zero] at this
        exact this
      have HTX : Hid (s.data.toList ++ txtB d (.assign v x r) = txtB d b) := htx
      have HR : Hid (FBl ns lo hi r dd.next c3 c2) := hrest
      have HS : Hid (szB r ≤ szB b) := Nat.le_trans (by show szB r ≤ szB r + 1; omega) hsz
      clear htx hd hrest hsz hroom hx
      go_wp2_with fail
      refine (HI.out _ (below_box (below_alloc1 _ _))).mono ?_
      rintro e w2 ⟨t, rfl, ht, hb2⟩
      have HB2 : Hid (Below _ _ w2) := (below_alloc1 _ _).trans (hb2.mono (by simp))
      have hst : t.size ≤ 2000000 := by rw [← size_list, ht]; exact HX.out
      obtain ⟨b0, b1, b2, b3, b4, b5, b6, b7, b8, b9⟩ := box10 HB2.out
      have HN : Hid (_ ∧ _) := line_assign HTX.out HP.out ht
      clear ht hb2
      go_wp2_with fail
      exact ⟨⟨_, _, rfl, rfl, ⟨r, _, _, HR.out, HN.out.1, HBL.out.trans ((below_box HB2.out).mono HBL.out.size), HS.out, HL.out.after (below_box HB2.out)⟩⟩, HN.out.2⟩
    | assert rel x y r =>
      obtain ⟨j, a, dd, c3, rfl, _, _, hd, _, hk, _, ha, _, hx, hrest⟩ := hbl
      obtain ⟨hlt, r0, r1, r2, r3, r4, r5, r6, r7, r8, r9⟩ := HL.out.facts hd
      rw [hk] at r0
      rw [ha] at r1
      have hc := fun (o : Obj) (z : Int) => conv_byte_at (wr.alloc o) (wr.heap.size + 1) (by simp) z
      have hroom := line_room htx HBB.out
      rw [txtB_assert] at hroom
      simp only [List.length_append] at hroom
      have hss : s.size ≤ 2000000 := by omega
      have HX : Hid ((ctxt rel x y).length ≤ 2000000) := by unfold Hid; omega
      have HI : Hid (∀ w', Below wr.heap.size wr w' → Calls Tryz.prog 69 #[.pointer (some ⟨pb, 0, none⟩), .int .i64 (a : Int)] w' fun e w'' => ∃ t : ByteArray, e = .returned (.string t) ∧ t.data.toList = ctxt rel x y ∧ Below w'.heap.size w' w'') := fun w' hb => fask_calls hx HX.out (HL.out.after hb)
      have HTX : Hid (s.data.toList ++ txtB d (.assert rel x y r) = txtB d b) := htx
      have HR : Hid (FBl ns lo hi r dd.next c3 c2) := hrest
      have HS : Hid (szB r ≤ szB b) := Nat.le_trans (by show szB r ≤ szB r + 1; omega) hsz
      clear htx hd hrest hsz hroom hx
      go_wp2_with fail
      refine (HI.out _ (below_box (below_alloc1 _ _))).mono ?_
      rintro e w2 ⟨t, rfl, ht, hb2⟩
      have HB2 : Hid (Below _ _ w2) := (below_alloc1 _ _).trans (hb2.mono (by simp))
      have hst : t.size ≤ 2000000 := by rw [← size_list, ht]; exact HX.out
      obtain ⟨b0, b1, b2, b3, b4, b5, b6, b7, b8, b9⟩ := box10 HB2.out
      have HN : Hid (_ ∧ _) := line_assert HTX.out HP.out ht
      clear ht hb2
      go_wp2_with fail
      exact ⟨⟨_, _, rfl, rfl, ⟨r, _, _, HR.out, HN.out.1, HBL.out.trans ((below_box HB2.out).mono HBL.out.size), HS.out, HL.out.after (below_box HB2.out)⟩⟩, HN.out.2⟩
    | ite rel x y xs els ys r =>
      obtain ⟨j, a, dd, c3, c4, c5, rfl, _, _, hd, _, hk, hels, ha, _, hx, hxs, hys, _, hrest⟩ := hbl
      obtain ⟨hlt, r0, r1, r2, r3, r4, r5, r6, r7, r8, r9⟩ := HL.out.facts hd
      rw [hk] at r0
      rw [ha] at r1
      rw [hels] at r9
      have hc := fun (o : Obj) (z : Int) => conv_byte_at (wr.alloc o) (wr.heap.size + 1) (by simp) z
      have hroom := line_room htx HBB.out
      have HPS : Hid ((pad ++ (⟨#[32, 32]⟩ : ByteArray)).size = (Sp.pad d).length + 2) := by
        have e1 := size_list pad
        have e2 := congrArg List.length HP.out
        unfold Hid
        simp only [ByteArray.size_append]
        have : (⟨#[32, 32]⟩ : ByteArray).size = 2 := rfl
        omega
      have HR : Hid (FBl ns lo hi r dd.next c5 c2) := hrest
      have HS : Hid (szB r ≤ szB b) := Nat.le_trans (by show szB r ≤ szB xs + szB ys + szB r + 1; omega) hsz
      cases els with
      | false =>
        rw [txtB_if] at hroom
        simp only [List.length_append, List.length_cons, List.length_nil] at hroom
        have hss : s.size ≤ 2000000 := by omega
        have HX : Hid ((ctxt rel x y).length ≤ 2000000 ∧ (txtB (d + 1) xs).length ≤ 2000000 ∧ (Sp.pad d).length + 2 ≤ 2000000) := by unfold Hid; omega
        have HI : Hid (∀ w', Below wr.heap.size wr w' → Calls Tryz.prog 69 #[.pointer (some ⟨pb, 0, none⟩), .int .i64 (a : Int)] w' fun e w'' => ∃ t : ByteArray, e = .returned (.string t) ∧ t.data.toList = ctxt rel x y ∧ Below w'.heap.size w' w'') := fun w' hb => fask_calls hx HX.out.1 (HL.out.after hb)
        have HJ : Hid (∀ w', Below wr.heap.size wr w' → Calls Tryz.prog 41 #[.pointer (some ⟨pb, 0, none⟩), .int .i64 dd.b, .string (pad ++ (⟨#[32, 32]⟩ : ByteArray))] w' fun e w'' => ∃ t : ByteArray, e = .returned (.string t) ∧ t.data.toList = txtB (d + 1) xs ∧ Below w'.heap.size w' w'') := fun w' hb => HIH.out xs dd.b c3 c4 (Nat.lt_of_lt_of_le (by show szB xs < szB xs + szB ys + szB r + 1; omega) hsz) hxs (d + 1) _ w' (pad_more HP.out) HX.out.2.1 (by rw [HPS.out]; have := HX.out.2.2; omega) (HL.out.after hb)
        have HTX : Hid (s.data.toList ++ txtB d (.ite rel x y xs false ys r) = txtB d b) := htx
        clear htx hd hrest hsz hroom hx hxs hys
        go_wp2_with fail
        refine (HI.out _ (below_box (below_alloc1 _ _))).mono ?_
        rintro e w2 ⟨t, rfl, ht, hb2⟩
        have HB2 : Hid (Below _ _ w2) := (below_alloc1 _ _).trans (hb2.mono (by simp))
        have hst : t.size ≤ 2000000 := by rw [← size_list, ht]; exact HX.out.1
        obtain ⟨b0, b1, b2, b3, b4, b5, b6, b7, b8, b9⟩ := box10 HB2.out
        have HT : Hid (t.data.toList = ctxt rel x y) := ht
        clear ht hb2
        go_wp2_with fail
        refine (HJ.out _ (below_box HB2.out)).mono ?_
        rintro e w3 ⟨u, rfl, hu, hb3⟩
        have HB3 : Hid (Below _ _ w3) := HB2.out.trans (hb3.mono HB2.out.size)
        have hsu : u.size ≤ 2000000 := by rw [← size_list, hu]; exact HX.out.2.1
        clear b0 b1 b2 b3 b4 b5 b6 b7 b8 b9
        obtain ⟨b0, b1, b2, b3, b4, b5, b6, b7, b8, b9⟩ := box10 HB3.out
        have HN : Hid (_ ∧ _) := line_if HTX.out HP.out HT.out hu
        clear hu hb3 HB2
        go_wp2_with fail
        exact ⟨⟨_, _, rfl, rfl, ⟨r, _, _, HR.out, HN.out.1, HBL.out.trans ((below_box HB3.out).mono HBL.out.size), HS.out, HL.out.after (below_box HB3.out)⟩⟩, HN.out.2⟩
      | true =>
        rw [txtB_else] at hroom
        simp only [List.length_append, List.length_cons, List.length_nil] at hroom
        have hss : s.size ≤ 2000000 := by omega
        have HX : Hid ((ctxt rel x y).length ≤ 2000000 ∧ (txtB (d + 1) xs).length ≤ 2000000 ∧ (Sp.pad d).length + 2 ≤ 2000000 ∧ (txtB (d + 1) ys).length ≤ 2000000) := by unfold Hid; omega
        have HI : Hid (∀ w', Below wr.heap.size wr w' → Calls Tryz.prog 69 #[.pointer (some ⟨pb, 0, none⟩), .int .i64 (a : Int)] w' fun e w'' => ∃ t : ByteArray, e = .returned (.string t) ∧ t.data.toList = ctxt rel x y ∧ Below w'.heap.size w' w'') := fun w' hb => fask_calls hx HX.out.1 (HL.out.after hb)
        have HJ : Hid (∀ w', Below wr.heap.size wr w' → Calls Tryz.prog 41 #[.pointer (some ⟨pb, 0, none⟩), .int .i64 dd.b, .string (pad ++ (⟨#[32, 32]⟩ : ByteArray))] w' fun e w'' => ∃ t : ByteArray, e = .returned (.string t) ∧ t.data.toList = txtB (d + 1) xs ∧ Below w'.heap.size w' w'') := fun w' hb => HIH.out xs dd.b c3 c4 (Nat.lt_of_lt_of_le (by show szB xs < szB xs + szB ys + szB r + 1; omega) hsz) hxs (d + 1) _ w' (pad_more HP.out) HX.out.2.1 (by rw [HPS.out]; have := HX.out.2.2; omega) (HL.out.after hb)
        have HK : Hid (∀ w', Below wr.heap.size wr w' → Calls Tryz.prog 41 #[.pointer (some ⟨pb, 0, none⟩), .int .i64 dd.c, .string (pad ++ (⟨#[32, 32]⟩ : ByteArray))] w' fun e w'' => ∃ t : ByteArray, e = .returned (.string t) ∧ t.data.toList = txtB (d + 1) ys ∧ Below w'.heap.size w' w'') := fun w' hb => HIH.out ys dd.c c4 c5 (Nat.lt_of_lt_of_le (by show szB ys < szB xs + szB ys + szB r + 1; omega) hsz) hys (d + 1) _ w' (pad_more HP.out) HX.out.2.2.2 (by rw [HPS.out]; have := HX.out.2.2.1; omega) (HL.out.after hb)
        have HTX : Hid (s.data.toList ++ txtB d (.ite rel x y xs true ys r) = txtB d b) := htx
        clear htx hd hrest hsz hroom hx hxs hys
        go_wp2_with fail
        refine (HI.out _ (below_box (below_alloc1 _ _))).mono ?_
        rintro e w2 ⟨t, rfl, ht, hb2⟩
        have HB2 : Hid (Below _ _ w2) := (below_alloc1 _ _).trans (hb2.mono (by simp))
        have hst : t.size ≤ 2000000 := by rw [← size_list, ht]; exact HX.out.1
        obtain ⟨b0, b1, b2, b3, b4, b5, b6, b7, b8, b9⟩ := box10 HB2.out
        have HT : Hid (t.data.toList = ctxt rel x y) := ht
        clear ht hb2
        go_wp2_with fail
        refine (HJ.out _ (below_box HB2.out)).mono ?_
        rintro e w3 ⟨u, rfl, hu, hb3⟩
        have HB3 : Hid (Below _ _ w3) := HB2.out.trans (hb3.mono HB2.out.size)
        have hsu : u.size ≤ 2000000 := by rw [← size_list, hu]; exact HX.out.2.1
        clear b0 b1 b2 b3 b4 b5 b6 b7 b8 b9
        obtain ⟨b0, b1, b2, b3, b4, b5, b6, b7, b8, b9⟩ := box10 HB3.out
        have HU : Hid (u.data.toList = txtB (d + 1) xs) := hu
        clear hu hb3 HB2
        go_wp2_with fail
        refine (HK.out _ (below_box HB3.out)).mono ?_
        rintro e w4 ⟨q, rfl, hq, hb4⟩
        have HB4 : Hid (Below _ _ w4) := HB3.out.trans (hb4.mono HB3.out.size)
        have hsq : q.size ≤ 2000000 := by rw [← size_list, hq]; exact HX.out.2.2.2
        clear b0 b1 b2 b3 b4 b5 b6 b7 b8 b9
        obtain ⟨b0, b1, b2, b3, b4, b5, b6, b7, b8, b9⟩ := box10 HB4.out
        have HN : Hid (_ ∧ _) := line_else HTX.out HP.out HT.out HU.out hq
        clear hq hb4 HB3
        go_wp2_with fail
        exact ⟨⟨_, _, rfl, rfl, ⟨r, _, _, HR.out, HN.out.1, HBL.out.trans ((below_box HB4.out).mono HBL.out.size), HS.out, HL.out.after (below_box HB4.out)⟩⟩, HN.out.2⟩
    | loop rel x y xs r =>
      obtain ⟨j, a, dd, c3, c4, rfl, _, _, hd, _, hk, ha, _, hx, hxs, hrest⟩ := hbl
      obtain ⟨hlt, r0, r1, r2, r3, r4, r5, r6, r7, r8, r9⟩ := HL.out.facts hd
      rw [hk] at r0
      rw [ha] at r1
      have hc := fun (o : Obj) (z : Int) => conv_byte_at (wr.alloc o) (wr.heap.size + 1) (by simp) z
      have hroom := line_room htx HBB.out
      rw [txtB_loop] at hroom
      simp only [List.length_append] at hroom
      have hss : s.size ≤ 2000000 := by omega
      have HX : Hid ((ctxt rel x y).length ≤ 2000000 ∧ (txtB (d + 1) xs).length ≤ 2000000) := by unfold Hid; omega
      have HI : Hid (∀ w', Below wr.heap.size wr w' → Calls Tryz.prog 69 #[.pointer (some ⟨pb, 0, none⟩), .int .i64 (a : Int)] w' fun e w'' => ∃ t : ByteArray, e = .returned (.string t) ∧ t.data.toList = ctxt rel x y ∧ Below w'.heap.size w' w'') := fun w' hb => fask_calls hx HX.out.1 (HL.out.after hb)
      have HJ : Hid (∀ w', Below wr.heap.size wr w' → Calls Tryz.prog 41 #[.pointer (some ⟨pb, 0, none⟩), .int .i64 dd.b, .string (pad ++ (⟨#[32, 32]⟩ : ByteArray))] w' fun e w'' => ∃ t : ByteArray, e = .returned (.string t) ∧ t.data.toList = txtB (d + 1) xs ∧ Below w'.heap.size w' w'') := fun w' hb => HIH.out xs dd.b c3 c4 (Nat.lt_of_lt_of_le (by show szB xs < szB xs + szB r + 1; omega) hsz) hxs (d + 1) _ w' (pad_more HP.out) HX.out.2 (by
        have e1 := size_list pad
        have e2 := congrArg List.length HP.out
        simp only [ByteArray.size_append]
        have : (⟨#[32, 32]⟩ : ByteArray).size = 2 := rfl
        omega) (HL.out.after hb)
      have HTX : Hid (s.data.toList ++ txtB d (.loop rel x y xs r) = txtB d b) := htx
      have HR : Hid (FBl ns lo hi r dd.next c4 c2) := hrest
      have HS : Hid (szB r ≤ szB b) := Nat.le_trans (by show szB r ≤ szB xs + szB r + 1; omega) hsz
      clear htx hd hrest hsz hroom hx hxs
      go_wp2_with fail
      refine (HI.out _ (below_box (below_alloc1 _ _))).mono ?_
      rintro e w2 ⟨t, rfl, ht, hb2⟩
      have HB2 : Hid (Below _ _ w2) := (below_alloc1 _ _).trans (hb2.mono (by simp))
      have hst : t.size ≤ 2000000 := by rw [← size_list, ht]; exact HX.out.1
      obtain ⟨b0, b1, b2, b3, b4, b5, b6, b7, b8, b9⟩ := box10 HB2.out
      have HT : Hid (t.data.toList = ctxt rel x y) := ht
      clear ht hb2
      go_wp2_with fail
      refine (HJ.out _ (below_box HB2.out)).mono ?_
      rintro e w3 ⟨u, rfl, hu, hb3⟩
      have HB3 : Hid (Below _ _ w3) := HB2.out.trans (hb3.mono HB2.out.size)
      have hsu : u.size ≤ 2000000 := by rw [← size_list, hu]; exact HX.out.2
      clear b0 b1 b2 b3 b4 b5 b6 b7 b8 b9
      obtain ⟨b0, b1, b2, b3, b4, b5, b6, b7, b8, b9⟩ := box10 HB3.out
      have HN : Hid (_ ∧ _) := line_loop HTX.out HP.out HT.out hu
      clear hu hb3 HB2
      go_wp2_with fail
      exact ⟨⟨_, _, rfl, rfl, ⟨r, _, _, HR.out, HN.out.1, HBL.out.trans ((below_box HB3.out).mono HBL.out.size), HS.out, HL.out.after (below_box HB3.out)⟩⟩, HN.out.2⟩

theorem flines_all {pb g cap : Nat} {ns : List FNode} {lo hi : Nat} : ∀ (m : Nat) (b : Bl) (k : Int) (ct ct' : Ct), szB b < m → FBl ns lo hi b k ct ct' → FLine pb g cap ns b k
  | 0, _, _, _, _, h, _ => absurd h (Nat.not_lt_zero _)
  | m + 1, b, k, ct, ct', h, hbl => flines_step hbl (fun b' k' c1 c2 h' hbl' => flines_all m b' k' c1 c2 (by omega) hbl')

/-- statements as text -/
theorem flines_calls {pb g cap : Nat} {ns : List FNode} {lo hi : Nat} {b : Bl} {k : Int} {ct ct' : Ct} (hbl : FBl ns lo hi b k ct ct') : FLine pb g cap ns b k := flines_all (szB b + 1) b k ct ct' (by omega) hbl

end Go.Proofs.YtiopfihjmkfdmaaGreatDoor
