/- THE DOCUMENT'S ANSWER: trees as nodes. -/
import Derived.Test.YtiopfihjmkfdmaaGreatDoorGFStep
import Derived.Test.YtiopfihjmkfdmaaGreatDoorGTree
import Derived.Test.YtiopfihjmkfdmaaGreatDoorGUnary
namespace Go.Proofs.YtiopfihjmkfdmaaGreatDoor
open Go.RowKit
open Sp (Sm Bl Ct)

/-- the sum at node k, made of nodes from lo on -/
def FSm (ns : List FNode) (lo : Nat) : Sm → Nat → Ct → Ct → Prop
  | .num n, k, ct, ct' => ∃ d, ns[k]? = some d ∧ d.kind = 1 ∧ d.n = (n : Int) ∧ n ≤ 32767 ∧ lo ≤ k ∧ ct' = ct
  | .name v, k, ct, ct' => ∃ d, ns[k]? = some d ∧ d.kind = 2 ∧ d.n = (v : Int) ∧ v < 8 ∧ lo ≤ k ∧ ct' = ct
  | .neg x, k, ct, ct' => ∃ d a, ns[k]? = some d ∧ d.kind = 3 ∧ d.a = ((a : Nat) : Int) ∧ a < k ∧ FSm ns lo x a ct ct'
  | .bin op x y, k, ct, ct' => ∃ d a b ct1, ns[k]? = some d ∧ d.kind = 4 ∧ d.a = ((a : Nat) : Int) ∧ d.b = ((b : Nat) : Int) ∧ d.sign = Sp.opSign op ∧ op < 5 ∧ a < k ∧ b < k ∧ FSm ns lo x a ct ct1 ∧
      (3 ≤ op → d.site = ct1.2) ∧ FSm ns lo y b (if 3 ≤ op then Sp.siteUp ct1 else ct1) ct'

theorem FSm.ge {ns : List FNode} {lo : Nat} : ∀ {x : Sm} {k : Nat} {ct ct' : Ct}, FSm ns lo x k ct ct' → lo ≤ k
  | .num _, _, _, _, ⟨_, _, _, _, _, h, _⟩ => h
  | .name _, _, _, _, ⟨_, _, _, _, _, h, _⟩ => h
  | .neg _, _, _, _, ⟨_, _, _, _, _, h, h2⟩ => by have := FSm.ge h2; omega
  | .bin _ _ _, _, _, _, ⟨_, _, _, _, _, _, _, _, _, _, h, _, h2, _⟩ => by have := FSm.ge h2; omega

theorem FSm.mono {ns ns' : List FNode} {lo lo' : Nat} (hlo : lo' ≤ lo) : ∀ {x : Sm} {k : Nat} {ct ct' : Ct}, (∀ i, lo ≤ i → i ≤ k → ns'[i]? = ns[i]?) → FSm ns lo x k ct ct' → FSm ns' lo' x k ct ct'
  | .num _, k, _, _, hns, ⟨d, h1, h2, h3, h4, h5, h6⟩ => ⟨d, by rw [hns k h5 (Nat.le_refl _)]; exact h1, h2, h3, h4, by omega, h6⟩
  | .name _, k, _, _, hns, ⟨d, h1, h2, h3, h4, h5, h6⟩ => ⟨d, by rw [hns k h5 (Nat.le_refl _)]; exact h1, h2, h3, h4, by omega, h6⟩
  | .neg _, k, _, _, hns, ⟨d, a, h1, h2, h3, h4, h5⟩ => ⟨d, a, by rw [hns k (by have := h5.ge; omega) (Nat.le_refl _)]; exact h1, h2, h3, h4, h5.mono hlo (fun i hi hik => hns i hi (by omega))⟩
  | .bin _ _ _, k, _, _, hns, ⟨d, a, b, ct1, h1, h2, h3, h4, h5, h6, h7, h8, h9, h10, h11⟩ =>
    ⟨d, a, b, ct1, by rw [hns k (by have := h9.ge; omega) (Nat.le_refl _)]; exact h1, h2, h3, h4, h5, h6, h7, h8, h9.mono hlo (fun i hi hik => hns i hi (by omega)), h10, h11.mono hlo (fun i hi hik => hns i hi (by omega))⟩

/-- a condition at node k -/
def FCd (ns : List FNode) (lo : Nat) (rel : Nat) (x y : Sm) (k : Nat) (ct ct' : Ct) : Prop :=
  ∃ d a b ct1, ns[k]? = some d ∧ d.a = ((a : Nat) : Int) ∧ d.b = ((b : Nat) : Int) ∧ d.sign = Sp.relSign rel ∧ rel < 6 ∧ a < k ∧ b < k ∧ FSm ns lo x a ct ct1 ∧ FSm ns lo y b ct1 ct'

theorem FCd.ge {ns : List FNode} {lo : Nat} {rel : Nat} {x y : Sm} {k : Nat} {ct ct' : Ct} (h : FCd ns lo rel x y k ct ct') : lo ≤ k := by
  obtain ⟨_, _, _, _, _, _, _, _, _, h1, _, h2, _⟩ := h
  have := h2.ge
  omega

theorem FCd.mono {ns ns' : List FNode} {lo lo' : Nat} (hlo : lo' ≤ lo) {rel : Nat} {x y : Sm} {k : Nat} {ct ct' : Ct} (hns : ∀ i, lo ≤ i → i ≤ k → ns'[i]? = ns[i]?) (h : FCd ns lo rel x y k ct ct') : FCd ns' lo' rel x y k ct ct' := by
  have hk := h.ge
  obtain ⟨d, a, b, ct1, h1, h2, h3, h4, h5, h6, h7, h8, h9⟩ := h
  exact ⟨d, a, b, ct1, by rw [hns k hk (Nat.le_refl _)]; exact h1, h2, h3, h4, h5, h6, h7, h8.mono hlo (fun i hi hik => hns i hi (by omega)), h9.mono hlo (fun i hi hik => hns i hi (by omega))⟩

/-- statements from node k on, made of nodes from lo on, ahead of hi -/
def FBl (ns : List FNode) (lo hi : Nat) : Bl → Int → Ct → Ct → Prop
  | .nil, k, ct, ct' => k = -1 ∧ ct' = ct
  | .assign v x rest, k, ct, ct' => ∃ (j a : Nat) (d : FNode) (ct1 : Ct), k = (j : Int) ∧ lo ≤ j ∧ j < hi ∧ ns[j]? = some d ∧ d.point = ct.1 ∧ d.kind = 6 ∧ d.n = (v : Int) ∧ v < 8 ∧ d.a = (a : Int) ∧ a < hi ∧ FSm ns lo x a (Sp.ptUp ct) ct1 ∧ FBl ns lo hi rest d.next ct1 ct'
  | .read v rest, k, ct, ct' => ∃ (j : Nat) (d : FNode), k = (j : Int) ∧ lo ≤ j ∧ j < hi ∧ ns[j]? = some d ∧ d.point = ct.1 ∧ d.kind = 7 ∧ d.n = (v : Int) ∧ v < 8 ∧ FBl ns lo hi rest d.next (Sp.ptUp ct) ct'
  | .assert rel x y rest, k, ct, ct' => ∃ (j a : Nat) (d : FNode) (ct1 : Ct), k = (j : Int) ∧ lo ≤ j ∧ j < hi ∧ ns[j]? = some d ∧ d.point = ct.1 ∧ d.kind = 8 ∧ d.site = ct.2 ∧ d.a = (a : Int) ∧ a < hi ∧ FCd ns lo rel x y a (Sp.siteUp (Sp.ptUp ct)) ct1 ∧ FBl ns lo hi rest d.next ct1 ct'
  | .ite rel x y xs els ys rest, k, ct, ct' => ∃ (j a : Nat) (d : FNode) (ct1 ct2 ct3 : Ct), k = (j : Int) ∧ lo ≤ j ∧ j < hi ∧ ns[j]? = some d ∧ d.point = ct.1 ∧ d.kind = 9 ∧ d.els = els ∧ d.a = (a : Int) ∧ a < hi ∧ FCd ns lo rel x y a (Sp.ptUp ct) ct1 ∧ FBl ns lo hi xs d.b ct1 ct2 ∧ FBl ns lo hi ys d.c ct2 ct3 ∧ (els = false → ys = .nil) ∧ FBl ns lo hi rest d.next ct3 ct'
  | .loop rel x y xs rest, k, ct, ct' => ∃ (j a : Nat) (d : FNode) (ct1 ct2 : Ct), k = (j : Int) ∧ lo ≤ j ∧ j < hi ∧ ns[j]? = some d ∧ d.point = ct.1 ∧ d.kind = 10 ∧ d.a = (a : Int) ∧ a < hi ∧ FCd ns lo rel x y a (Sp.ptUp ct) ct1 ∧ FBl ns lo hi xs d.b ct1 ct2 ∧ FBl ns lo hi rest d.next ct2 ct'

theorem FBl.mono {ns ns' : List FNode} {lo lo' hi hi' : Nat} (hlo : lo' ≤ lo) (hhi : hi ≤ hi') (hns : ∀ i, lo ≤ i → i < hi → ns'[i]? = ns[i]?) : ∀ {x : Bl} {k : Int} {ct ct' : Ct}, FBl ns lo hi x k ct ct' → FBl ns' lo' hi' x k ct ct'
  | .nil, _, _, _, h => h
  | .assign _ _ _, _, _, _, ⟨j, a, d, c1, h1, h2, h3, h4, h5, h6, h7, h8, h9, h10, h11, h12⟩ =>
    ⟨j, a, d, c1, h1, by omega, by omega, by rw [hns j h2 h3]; exact h4, h5, h6, h7, h8, h9, by omega, h11.mono hlo (fun i hi hik => hns i hi (by omega)), h12.mono hlo hhi hns⟩
  | .read _ _, _, _, _, ⟨j, d, h1, h2, h3, h4, h5, h6, h7, h8, h9⟩ =>
    ⟨j, d, h1, by omega, by omega, by rw [hns j h2 h3]; exact h4, h5, h6, h7, h8, h9.mono hlo hhi hns⟩
  | .assert _ _ _ _, _, _, _, ⟨j, a, d, c1, h1, h2, h3, h4, h5, h6, h7, h8, h9, h10, h11⟩ =>
    ⟨j, a, d, c1, h1, by omega, by omega, by rw [hns j h2 h3]; exact h4, h5, h6, h7, h8, by omega, h10.mono hlo (fun i hi hik => hns i hi (by omega)), h11.mono hlo hhi hns⟩
  | .ite _ _ _ _ _ _ _, _, _, _, ⟨j, a, d, c1, c2, c3, h1, h2, h3, h4, h5, h6, h7, h8, h9, h10, h11, h12, h13, h14⟩ =>
    ⟨j, a, d, c1, c2, c3, h1, by omega, by omega, by rw [hns j h2 h3]; exact h4, h5, h6, h7, h8, by omega, h10.mono hlo (fun i hi hik => hns i hi (by omega)), h11.mono hlo hhi hns, h12.mono hlo hhi hns, h13, h14.mono hlo hhi hns⟩
  | .loop _ _ _ _ _, _, _, _, ⟨j, a, d, c1, c2, h1, h2, h3, h4, h5, h6, h7, h8, h9, h10, h11⟩ =>
    ⟨j, a, d, c1, c2, h1, by omega, by omega, by rw [hns j h2 h3]; exact h4, h5, h6, h7, by omega, h9.mono hlo (fun i hi hik => hns i hi (by omega)), h10.mono hlo hhi hns, h11.mono hlo hhi hns⟩

/-- the numbers that stand in a sum, in statements -/
def numsS : Sm → List Int
  | .num n => [(n : Int)]
  | .name _ => []
  | .neg x => numsS x
  | .bin _ x y => numsS x ++ numsS y
def numsB : Bl → List Int
  | .nil => []
  | .assign _ x rest => numsS x ++ numsB rest
  | .read _ rest => numsB rest
  | .assert _ x y rest => numsS x ++ numsS y ++ numsB rest
  | .ite _ x y xs _ ys rest => numsS x ++ numsS y ++ numsB xs ++ numsB ys ++ numsB rest
  | .loop _ x y xs rest => numsS x ++ numsS y ++ numsB xs ++ numsB rest

end Go.Proofs.YtiopfihjmkfdmaaGreatDoor

/- THE DOCUMENT'S ANSWER: isName, value. -/
namespace Go.Proofs.YtiopfihjmkfdmaaGreatDoor
open Go.RowKit
set_option maxRecDepth 100000
set_option maxHeartbeats 2000000

theorem tok_letters {l : Sp.Bs} {c : UInt8} {r : Sp.Bs} (h : Sp.tok l = c :: r) (hc : Sp.isLet c = true) : Sp.tokKind l = 2 := by
  cases l with
  | nil => simp [Sp.tok] at h
  | cons d q =>
    have e : d = c := by
      unfold Sp.tok at h
      cases hn : Sp.tokLen (d :: q) with
      | zero => rw [hn] at h; simp at h
      | succ m => rw [hn, List.take_succ_cons] at h; exact (List.cons.inj h).1
    subst e
    rw [Sp.tokKind_cons, if_pos hc]
theorem tok_digit {l : Sp.Bs} {c : UInt8} {r : Sp.Bs} (h : Sp.tok l = c :: r) (hc : Sp.isDig c = true) : Sp.tokKind l = 3 := by
  cases l with
  | nil => simp [Sp.tok] at h
  | cons d q =>
    have e : d = c := by
      unfold Sp.tok at h
      cases hn : Sp.tokLen (d :: q) with
      | zero => rw [hn] at h; simp at h
      | succ m => rw [hn, List.take_succ_cons] at h; exact (List.cons.inj h).1
    subst e
    rw [Sp.tokKind_cons, if_neg, if_pos hc]
    intro k
    unfold Sp.isLet at k; unfold Sp.isDig at hc
    simp at k hc
    omega

theorem fIsName_calls (l : Sp.Bs) (hl : l.length ≤ 400) (w : World) :
    Calls Tryz.prog 129 #[.string ⟨(Sp.tok l).toArray⟩] w fun e w' => e = .returned (.bool (Sp.nameVal l).isSome) ∧ w' = w := by
  have hln := Sp.tok_length l
  have hle := Sp.tokLen_le l
  by_cases h1 : (Sp.tok l).length = 1
  · obtain ⟨c, ht⟩ : ∃ c, Sp.tok l = [c] := by
      match hm : Sp.tok l, h1 with
      | [c], _ => exact ⟨c, rfl⟩
    obtain ⟨t, et, hs1, hx⟩ := one_byte c
    have h0 : 0 < t.size := by omega
    have e : Hid ((Sp.nameVal l).isSome = (decide (97 ≤ c.toNat) && decide (c.toNat ≤ 104))) := by
      unfold Hid
      by_cases hc : 97 ≤ c.toNat ∧ c.toNat ≤ 104
      · have hk := tok_letters ht (by unfold Sp.isLet; simp; omega)
        have : Sp.nameVal l = some (c.toNat - 97) := by
          unfold Sp.nameVal; rw [ht]; simp [hk]; omega
        rw [this]; simp; omega
      · cases hv : Sp.nameVal l with
        | none => simp; omega
        | some k =>
          obtain ⟨c', e1, _, e3, e4, _⟩ := nameVal_some hv
          rw [ht] at e1
          cases e1
          omega
    rw [ht, ← et]
    have hx0 : t[0].toNat = c.toNat := by rw [hx]
    clear hx et ht h1 hln hle
    go_enter Tryz.func129, Tryz.ntmps129
    go_wp2
    all_goals
      go_ret
      exact ⟨ret_bool (by rw [e.out, Bool.eq_iff_iff]; simp; omega), rfl⟩
  · have e : Hid ((Sp.nameVal l).isSome = false) := by
      unfold Hid
      cases hv : Sp.nameVal l with
      | none => rfl
      | some k =>
        obtain ⟨c', e1, _⟩ := nameVal_some hv
        rw [e1] at h1; simp at h1
    have hsz : (⟨(Sp.tok l).toArray⟩ : ByteArray).size = (Sp.tok l).length := size_of _
    have hs400 : (⟨(Sp.tok l).toArray⟩ : ByteArray).size ≤ 400 := by omega
    generalize (⟨(Sp.tok l).toArray⟩ : ByteArray) = t at *
    have hb : ((t.size : Int) == 1) = false := by simp; omega
    have hb2 : ¬ (t.size : Int) = 1 := by omega
    clear hsz
    go_enter Tryz.func129, Tryz.ntmps129
    go_wp2_with fail
    go_ret
    exact ⟨ret_bool e.out.symm, rfl⟩

/-- a number's value; -1: it is none -/
def fVal (t : Sp.Bs) : Int := if t = [] ∨ 5 < t.length ∨ (t.head? = some 48 ∧ 1 < t.length) then -1 else if (∀ c ∈ t, Sp.isDig c = true) then (if Sp.decimal t ≤ 32767 then (Sp.decimal t : Int) else -1) else -1

theorem decimal_snoc (t : Sp.Bs) (c : UInt8) : Sp.decimal (t ++ [c]) = Sp.decimal t * 10 + (c.toNat - 48) := by
  unfold Sp.decimal; rw [List.foldl_append]; rfl

theorem take_succ (t : ByteArray) (i : Nat) (h : i < t.size) : t.data.toList.take (i + 1) = t.data.toList.take i ++ [t[i]] := by
  rw [List.take_add_one, byte_at t i h]; rfl

theorem fValue_calls (t : ByteArray) (ht : t.size ≤ 400) (w : World) :
    Calls Tryz.prog 238 #[.string t] w fun e w' => e = .returned (.int .i64 (fVal t.data.toList)) ∧ w' = w := by
  have hlen : t.data.toList.length = t.size := by simp
  by_cases h0 : t.size = 0
  · have e : Hid (fVal t.data.toList = -1) := by unfold Hid fVal; rw [if_pos (.inl (List.length_eq_zero_iff.1 (by omega)))]
    have hb : t.toList.isEmpty = true := by rw [ByteArray.toList_eq, List.length_eq_zero_iff.1 (by omega : t.data.toList.length = 0)]; rfl
    clear hlen
    go_enter Tryz.func238, Tryz.ntmps238
    go_wp2_with fail
    go_ret
    exact ⟨ret_int e.out.symm, rfl⟩
  · have hb : t.toList.isEmpty = false := by
      rw [ByteArray.toList_eq]
      cases he : t.data.toList with
      | nil => rw [he] at hlen; simp at hlen; omega
      | cons _ _ => rfl
    by_cases h5 : 5 < t.size
    · have e : Hid (fVal t.data.toList = -1) := by unfold Hid fVal; rw [if_pos (.inr (.inl (by omega)))]
      have h5i : (5 : Int) < (t.size : Int) := by omega
      clear hlen
      go_enter Tryz.func238, Tryz.ntmps238
      go_wp2_with fail
      go_ret
      exact ⟨ret_int e.out.symm, rfl⟩
    · have h5i : ¬ (5 : Int) < (t.size : Int) := by omega
      have hp : 0 < t.size := by omega
      have hhd : t.data.toList.head? = some t[0] := by rw [List.head?_eq_getElem?]; exact byte_at t 0 hp
      by_cases h48 : (t[0].toNat : Int) = 48 ∧ 1 < t.size
      · have e : Hid (fVal t.data.toList = -1) := by unfold Hid fVal; rw [if_pos (.inr (.inr ⟨by rw [hhd]; congr 1; exact UInt8.toNat_inj.1 (by show t[0].toNat = 48; omega), by omega⟩))]
        obtain ⟨h48, h1⟩ := h48
        have h1i : (1 : Int) < (t.size : Int) := by omega
        clear hlen hhd
        go_enter Tryz.func238, Tryz.ntmps238
        go_wp2_with fail
        go_ret
        exact ⟨ret_int e.out.symm, rfl⟩
      · have e : Hid (fVal t.data.toList = if (∀ c ∈ t.data.toList, Sp.isDig c = true) then (if Sp.decimal t.data.toList ≤ 32767 then (Sp.decimal t.data.toList : Int) else -1) else -1) := by
          unfold Hid fVal
          rw [if_neg]
          rintro (h | h | ⟨h, h'⟩)
          · rw [h] at hlen; simp at hlen; omega
          · omega
          · rw [hhd] at h
            have : t[0] = 48 := Option.some.inj h
            exact h48 ⟨by rw [this]; rfl, by omega⟩
        have hcase : ((t[0].toNat : Int) == 48) = false ∧ ¬ (t[0].toNat : Int) = 48 ∨ ((t[0].toNat : Int) == 48) = true ∧ (t[0].toNat : Int) = 48 ∧ ¬ (1 : Int) < (t.size : Int) := by
          by_cases h : (t[0].toNat : Int) = 48
          · exact .inr ⟨by simpa using h, h, by omega⟩
          · exact .inl ⟨by simpa using h, h⟩
        clear hhd h48 hlen
        rcases hcase with ⟨k1, k2⟩ | ⟨k1, k2, k3⟩
        all_goals
          go_enter Tryz.func238, Tryz.ntmps238
          go_wp2_with fail
          go_loopw [3, 4] (fun n i wr => ∃ j : Nat, j ≤ t.size ∧ Hid (∀ c ∈ t.data.toList.take j, Sp.isDig c = true) ∧ Hid (Sp.decimal (t.data.toList.take j) < 10 ^ j) ∧ n = .int .i64 (Sp.decimal (t.data.toList.take j) : Nat) ∧ i = .int .i64 j ∧ wr = w) (fun _ i _ => t.size - (intOf i).toNat)
          case atStart => exact ⟨0, Nat.zero_le _, by intro c hc; simp at hc, by show Sp.decimal [] < _; decide, rfl, rfl, rfl⟩
          case round =>
            obtain ⟨j, hj, hd, hn, rfl, rfl, rfl⟩ := hrel
            have hn5 : Sp.decimal (t.data.toList.take j) < 100000 := Nat.lt_of_lt_of_le hn.out (Nat.pow_le_pow_right (by omega) (by omega : j ≤ 5))
            by_cases hjl : j < t.size
            · have hji : (j : Int) < (t.size : Int) := by omega
              by_cases hc : Sp.isDig t[j] = true
              · have hcr : 48 ≤ t[j].toNat ∧ t[j].toNat ≤ 57 := by unfold Sp.isDig at hc; simpa using hc
                have hd1 : Hid (∀ c ∈ t.data.toList.take (j + 1), Sp.isDig c = true) := by
                  intro c hcm
                  rw [take_succ t j hjl] at hcm
                  rcases List.mem_append.1 hcm with h | h
                  · exact hd.out c h
                  · simp at h; rw [h]; exact hc
                have hs1 : Hid (Sp.decimal (t.data.toList.take (j + 1)) = Sp.decimal (t.data.toList.take j) * 10 + (t[j].toNat - 48)) := by unfold Hid; rw [take_succ t j hjl, decimal_snoc]
                have hn1 : Hid (Sp.decimal (t.data.toList.take (j + 1)) < 10 ^ (j + 1)) := by
                  unfold Hid; rw [hs1.out, Nat.pow_succ]
                  have := hn.out
                  omega
                clear hn hd
                generalize Sp.decimal (t.data.toList.take j) = m at *
                have hu : (48 : Int) ≤ (t[j].toNat : Int) ∧ (t[j].toNat : Int) ≤ 57 := by omega
                go_wp2_with fail
                refine (fDigit_calls _ _).mono ?_
                rintro e w' ⟨rfl, rfl⟩
                rw [hc]
                go_wp2_with fail
                exact ⟨⟨j + 1, by omega, hd1, hn1, by rw [hs1.out]; go_num, by go_num, trivial⟩, by simp [intOf]; omega⟩
              · have hc0 : Sp.isDig t[j] = false := by simpa using hc
                have E : Hid (fVal t.data.toList = -1) := by
                  unfold Hid; rw [e.out, if_neg]
                  intro hall
                  exact hc (hall _ (List.mem_of_getElem? (byte_at t j hjl)))
                clear hn hd e
                generalize Sp.decimal (t.data.toList.take j) = m at *
                go_wp2_with fail
                refine (fDigit_calls _ _).mono ?_
                rintro e w' ⟨rfl, rfl⟩
                rw [hc0]
                go_wp2_with fail
                go_ret
                exact ⟨ret_int E.out.symm, rfl⟩
            · have hji : ¬ (j : Int) < (t.size : Int) := by omega
              have htk : t.data.toList.take j = t.data.toList := List.take_of_length_le (by simp; omega)
              have E : Hid (fVal t.data.toList = if Sp.decimal (t.data.toList.take j) ≤ 32767 then (Sp.decimal (t.data.toList.take j) : Int) else -1) := by
                unfold Hid; rw [e.out, if_pos (by have := hd.out; rw [htk] at this; exact this), htk]
              clear hn hd e htk
              generalize Sp.decimal (t.data.toList.take j) = m at *
              by_cases hm : m ≤ 32767
              · have hmi : ¬ (32767 : Int) < (m : Int) := by omega
                go_wp2_with fail
                go_ret
                exact ⟨ret_int (by rw [E.out, if_pos hm]), rfl⟩
              · have hmi : (32767 : Int) < (m : Int) := by omega
                go_wp2_with fail
                go_ret
                exact ⟨ret_int (by rw [E.out, if_neg hm]), rfl⟩

theorem decFrom_pow : ∀ (t : Sp.Bs) (a : Nat), a * 10 ^ t.length ≤ decFrom a t
  | [], a => by show a * 10 ^ 0 ≤ a; omega
  | c :: r, a => by
    have h := decFrom_pow r (a * 10 + (c.toNat - 48))
    have e : decFrom a (c :: r) = decFrom (a * 10 + (c.toNat - 48)) r := rfl
    rw [e, List.length_cons, Nat.pow_succ]
    refine Nat.le_trans ?_ h
    rw [Nat.add_mul, Nat.mul_comm (10 ^ r.length) 10, ← Nat.mul_assoc]
    omega

theorem fVal_number {l : Sp.Bs} (h : Sp.tokKind l = 3) : fVal (Sp.tok l) = match Sp.numVal (Sp.tok l) with
    | some v => (v : Int)
    | none => -1 := by
  obtain ⟨hne, hd⟩ := digits_of_kind h
  unfold fVal Sp.numVal
  by_cases h1 : 1 < (Sp.tok l).length ∧ (Sp.tok l).head? = some 48
  · rw [if_pos (.inr (.inr ⟨h1.2, h1.1⟩)), if_pos h1]
  · rw [if_neg h1]
    by_cases h5 : 5 < (Sp.tok l).length
    · rw [if_pos (.inr (.inl h5)), if_neg]
      cases ht : Sp.tok l with
      | nil => exact absurd ht hne
      | cons c r =>
        rw [ht] at h5 h1 hd
        have hc := hd c (by simp)
        unfold Sp.isDig at hc
        simp at hc
        have hc2 : c.toNat ≠ 48 := fun e => h1 ⟨by simp at h5 ⊢; omega, by simp; exact UInt8.toNat_inj.1 e⟩
        have e : Sp.decimal (c :: r) = decFrom (0 * 10 + (c.toNat - 48)) r := rfl
        have hp := decFrom_pow r (0 * 10 + (c.toNat - 48))
        have h10 : 10 ^ 5 ≤ 10 ^ r.length := Nat.pow_le_pow_right (by omega) (by simp at h5; omega)
        have h11 : 1 * 10 ^ r.length ≤ (0 * 10 + (c.toNat - 48)) * 10 ^ r.length := Nat.mul_le_mul_right _ (by omega)
        rw [e]
        omega
    · rw [if_neg (by rintro (k | k | k); exact hne k; exact h5 k; exact h1 ⟨k.2, k.1⟩), if_pos hd]
      split <;> rfl

theorem fVal_other {l : Sp.Bs} (h : Sp.tokKind l ≠ 3) : fVal (Sp.tok l) = -1 := by
  unfold fVal
  split
  · rfl
  · rename_i hn
    rw [if_neg]
    intro hall
    cases ht : Sp.tok l with
    | nil => exact hn (.inl ht)
    | cons c r => exact h (tok_digit ht (hall c (by rw [ht]; simp)))

end Go.Proofs.YtiopfihjmkfdmaaGreatDoor

/- THE DOCUMENT'S ANSWER: what its reader's functions promise. -/
namespace Go.Proofs.YtiopfihjmkfdmaaGreatDoor
open Go.RowKit
open Sp (Sm Bl Ct)
set_option maxRecDepth 100000
set_option maxHeartbeats 2000000

def left {α : Type} : Sp.R α → Except (Nat × Nat) Sp.Bs
  | .ok (_, l) => .ok l
  | .error e => .error e

/-- there is room enough -/
def In64 (n : Int) : Prop := -9223372036854775808 ≤ n ∧ n ≤ 9223372036854775807
def FLim (p : FP) (l : Sp.Bs) : Prop := p.ns.length + 2 * l.length ≤ 2000 ∧ p.qs.length + l.length ≤ 2000 ∧ In64 p.ct.1

/-- how much was made, of l, where l' is left -/
structure FMade (p p' : FP) (l l' : Sp.Bs) : Prop where
  pre : ∃ ex, p'.ns = p.ns ++ ex
  nl : p'.ns.length + 2 * l'.length ≤ p.ns.length + 2 * l.length
  ql : p'.qs.length + l'.length ≤ p.qs.length + l.length
  pt : In64 p.ct.1 → In64 p'.ct.1

theorem FMade.len {p p' : FP} {l l' : Sp.Bs} (h : FMade p p' l l') : p.ns.length ≤ p'.ns.length := by
  obtain ⟨ex, e⟩ := h.pre; rw [e]; simp
theorem FMade.at {p p' : FP} {l l' : Sp.Bs} (h : FMade p p' l l') {i : Nat} (hi : i < p.ns.length) : p'.ns[i]? = p.ns[i]? := by
  obtain ⟨ex, e⟩ := h.pre; rw [e, List.getElem?_append_left hi]
theorem FMade.trans {p p1 p2 : FP} {l l1 l2 : Sp.Bs} (h : FMade p p1 l l1) (k : FMade p1 p2 l1 l2) : FMade p p2 l l2 := by
  obtain ⟨e1, h1⟩ := h.pre
  obtain ⟨e2, h2⟩ := k.pre
  refine ⟨⟨e1 ++ e2, by rw [h2, h1, List.append_assoc]⟩, ?_, ?_, fun q => k.pt (h.pt q)⟩
  · have := h.nl; have := k.nl; omega
  · have := h.ql; have := k.ql; omega
theorem FMade.lim {p p' : FP} {l l' : Sp.Bs} (h : FMade p p' l l') (k : FLim p l) : FLim p' l' := by
  have := h.nl; have := h.ql; obtain ⟨k1, k2, k3⟩ := k; exact ⟨by omega, by omega, h.pt k3⟩
/-- only bytes were taken -/
theorem FMade.eat {p : FP} {l l' : Sp.Bs} (h : l'.length ≤ l.length) : FMade p p l l' := ⟨⟨[], by simp⟩, by omega, by omega, id⟩
/-- a node more -/
theorem FMade.node {p p' : FP} {l l' : Sp.Bs} (h : FMade p p' l l') (n : FNode) (v : Value) (hs : p'.ns.length + 1 + 2 * l'.length ≤ p.ns.length + 2 * l.length) : FMade p { p' with ns := p'.ns ++ [n], nv := v } l l' := by
  obtain ⟨ex, e⟩ := h.pre
  exact ⟨⟨ex ++ [n], by show p'.ns ++ [n] = _; rw [e, List.append_assoc]⟩, by simp; omega, h.ql, h.pt⟩

/-- where something was wrong -/
def FBad (p p' : FP) (l : Sp.Bs) : Prop := (∃ ex, p'.ns = p.ns ++ ex) ∧ p'.ns.length ≤ p.ns.length + 2 * l.length + 2
theorem FBad.refl (p : FP) (l : Sp.Bs) : FBad p p l := ⟨⟨[], by simp⟩, by omega⟩
theorem FBad.made {p p1 p2 : FP} {l l1 : Sp.Bs} (h : FMade p p1 l l1) (k : FBad p1 p2 l1) : FBad p p2 l := by
  obtain ⟨e1, h1⟩ := h.pre
  obtain ⟨⟨e2, h2⟩, h3⟩ := k
  have := h.nl
  exact ⟨⟨e1 ++ e2, by rw [h2, h1, List.append_assoc]⟩, by omega⟩
theorem FBad.node {p p' : FP} {l l1 : Sp.Bs} (h : FBad p p' l1) (hl : l1.length < l.length) (n : FNode) (v : Value) : FBad p { p' with ns := p'.ns ++ [n], nv := v } l := by
  obtain ⟨⟨ex, e⟩, h2⟩ := h
  exact ⟨⟨ex ++ [n], by show p'.ns ++ [n] = _; rw [e, List.append_assoc]⟩, by simp; omega⟩
theorem FBad.of_made {p p' : FP} {l l' : Sp.Bs} (h : FMade p p' l l') : FBad p p' l := ⟨h.pre, by have := h.nl; omega⟩
theorem FBad.len {p p' : FP} {l : Sp.Bs} (h : FBad p p' l) : p.ns.length ≤ p'.ns.length := by
  obtain ⟨⟨ex, e⟩, _⟩ := h; rw [e]; simp
theorem FBad.more {p p' : FP} {l l1 : Sp.Bs} (h : FBad p p' l1) (hl : l1.length ≤ l.length) : FBad p p' l := ⟨h.1, by have := h.2; omega⟩

/-- what is got of a sum -/
def FGotS (p p' : FP) (l : Sp.Bs) (k : Int) : Sp.R Sm → Prop
  | .ok (x, l') => FMade p p' l l' ∧ (∃ j : Nat, k = (j : Int) ∧ j < p'.ns.length ∧ FSm p'.ns p.ns.length x j p.ct p'.ct) ∧ p'.qs = p.qs ++ numsS x
  | .error _ => FBad p p' l

def FPostS (base b pb : Nat) (s : ByteArray) (o : Nat) (p : FP) (l : Sp.Bs) (w : World) (r : Sp.R Sm) (e : Ending) (w' : World) : Prop :=
  ∃ (k : Int) (p' : FP), e = .returned (.int .i64 k) ∧ FX base b pb s (left r) (o : Int) p' w' ∧ FK b pb p p' w w' ∧ FGotS p p' l k r

/-- a function of the reader that reads a sum -/
def FReads (f : FuncId) (base b pb : Nat) (s : ByteArray) (o n : Nat) (u : Sp.Bs → Sp.R Sm) : Prop :=
  ∀ (l : Sp.Bs) (p : FP) (w : World), l.length < n → FR base b pb s l (o : Int) p w → FLim p l → Calls Tryz.prog f #[.pointer (some ⟨b, 0, none⟩)] w (FPostS base b pb s o p l w (u l))

/-- behind a fault nothing is read -/
def FIdle (f : FuncId) (base b pb : Nat) (s : ByteArray) (v : Int) : Prop :=
  ∀ (er : Nat × Nat) (p : FP) (w : World), FE base b pb s er p w → Calls Tryz.prog f #[.pointer (some ⟨b, 0, none⟩)] w fun e w' => e = .returned (.int .i64 v) ∧ w' = w

theorem fp_nums {w : World} {pb : Nat} {p : FP} {first : Int} (h : w.heap[pb]? = some (.cells (fpCells p first) 105)) (v : Value) (qs : List Int) : (w.setCell ⟨pb, 4, none⟩ v).heap[pb]? = some (.cells (fpCells { p with qs := qs, qv := v } first) 105) := by
  rw [heap_setCell_at h 4 v]; rfl

theorem infoI : (Tryz.prog.info? 3).map (fun i => (i.zero, i.size, i.bytes)) = some (some (.int .i64 0), 1, 8) := by kernel_rfl

/-- behind the append and the store -/
theorem numbered_at {base b pb : Nat} {s : ByteArray} {r : Except (Nat × Nat) Sp.Bs} {oo : Int} {p : FP} {w w1 : World} {o : Obj} (h : FX base b pb s r oo p w) (hn : p.qs.length + 1 ≤ 1000000) (n : Int) {gg cap : Nat}
    (hown : w1.ownsRow base 3 1 (.slice (some ⟨gg, 0, none⟩) (p.qs.length + 1) cap) (p.qs.length + 1) ((p.qs.map fun n => Value.int .i64 n) ++ [.int .i64 n])) (hg : (w.alloc o).drew.grownBy w1 p.qv.ownBlock) (hat : p.qv.ownBlock = some gg ∨ gg = w.heap.size + 1) :
    FX base b pb s r oo { p with qs := p.qs ++ [n], qv := .slice (some ⟨gg, 0, none⟩) (p.qs.length + 1) cap } (w1.setCell ⟨pb, 4, none⟩ (.slice (some ⟨gg, 0, none⟩) (p.qs.length + 1) cap)) ∧ FK b pb p { p with qs := p.qs ++ [n], qv := .slice (some ⟨gg, 0, none⟩) (p.qs.length + 1) cap } w (w1.setCell ⟨pb, 4, none⟩ (.slice (some ⟨gg, 0, none⟩) (p.qs.length + 1) cap)) := by
  have hp := h.prog
  have hlt := heap_lt hp.blk
  obtain ⟨i, a, t, o', er, hb⟩ := h.rdr
  have hblk : ∀ k, k < w.heap.size → p.qv.ownBlock ≠ some k → w1.heap[k]? = w.heap[k]? := fun k hk hn => by
    rw [hg.block k (by show k < (w.alloc o).heap.size; simp; omega) (fun e => hn e.symm)]
    exact Below.heap_alloc _ _ _ hk
  have hsz : w.heap.size ≤ w1.heap.size := by
    have := hg.size
    have h2 : (w.alloc o).drew.heap.size = w.heap.size + 1 := by show (w.alloc o).heap.size = _; simp
    omega
  have hnp := hp.rows_ne hp.blk prog_ne
  have hnb := hp.rows_ne hb rdr_ne
  have hp1 : w1.heap[pb]? = some (.cells (fpCells p 0) 105) := by rw [hblk pb hlt hnp.2]; exact hp.blk
  have hpn : FPAt base pb { p with qs := p.qs ++ [n], qv := .slice (some ⟨gg, 0, none⟩) (p.qs.length + 1) cap } (w1.setCell ⟨pb, 4, none⟩ (.slice (some ⟨gg, 0, none⟩) (p.qs.length + 1) cap)) := by
    refine ⟨fp_nums hp1 _ _, ?_, ?_, hp.ge, hp.n5, by simp; omega⟩
    · refine ownsRow9_keep hp.rowN (fun g hg' => ?_)
      have hgl := (ownsRow9_lt hp.rowN g hg').2.1
      rw [Below.heap_setCell _ _ _ _ (fun e => hnp.1 (by rw [← show g = pb from e]; exact hg'))]
      exact hblk g hgl (fun e => hp.rows_apart g hg' e)
    · show World.ownsRow _ base 3 1 _ (p.qs ++ [n]).length ((p.qs ++ [n]).map _)
      rw [List.map_append, List.length_append]
      exact ownsRow9_keep hown (fun g hg' => Below.heap_setCell _ _ _ _ (fun e => by
        obtain ⟨_, _, c, hc⟩ := ownsRow9_lt hown g hg'
        have e' : g = pb := e
        rw [e', hp1] at hc
        cases hc))
  refine ⟨h.move ?_ hpn, hg.os, hg.tape, hg.output, by simp [World.setCell]; omega, fun _ e => .inl e, ?_, ?_⟩
  · rw [Below.heap_setCell _ _ _ _ h.ne]
    exact hblk b (heap_lt hb) hnb.2
  · intro g hg'
    have e : gg = g := by simpa [Value.ownBlock] using hg'
    subst e
    rcases hat with h1 | h1
    · exact .inl h1
    · exact .inr (by omega)
  · intro k hk _ h2 _ h4
    rw [Below.heap_setCell _ _ _ _ h2]
    exact hblk k hk h4

theorem unary_idle (base b pb : Nat) (s : ByteArray) : FIdle 210 base b pb s 0 := by
  intro er p w h
  obtain ⟨i, l0, o, hb, hl0⟩ := h.blk
  have c6 := cell_of hb 6 (v := .int .i64 er.1) rfl
  have c3 := cell_of hb 3 (v := .string ⟨(Sp.tok l0).toArray⟩) rfl
  have hz : ((er.1 : Int) == 0) = false := by have := h.nz; simp; omega
  have hz2 : ¬ ((er.1 : Int) = 0) := by have := h.nz; omega
  have hsz : (⟨(Sp.tok l0).toArray⟩ : ByteArray).size ≤ 400 := by rw [size_of, Sp.tok_length]; have := Sp.tokLen_le l0; omega
  generalize (er.1 : Int) = q at *
  clear h hb
  go_enter Tryz.func210, Tryz.ntmps210
  go_wp2_with fail
  refine (fValue_calls _ hsz _).mono ?_
  rintro e w1 ⟨rfl, rfl⟩
  go_wp2_with fail
  refine (fIsName_calls l0 hl0 _).mono ?_
  rintro e w1 ⟨rfl, rfl⟩
  go_wp2_with fail
  go_ret
  exact ⟨rfl, rfl⟩

end Go.Proofs.YtiopfihjmkfdmaaGreatDoor

/- THE DOCUMENT'S ANSWER: unary. -/
namespace Go.Proofs.YtiopfihjmkfdmaaGreatDoor
open Go.RowKit
open Sp (Sm Bl Ct Tr)
set_option maxRecDepth 100000
set_option maxHeartbeats 4000000

/-- unary's two questions ahead of its choice -/
theorem FR.asks {base b pb : Nat} {s : ByteArray} {l : Sp.Bs} {o : Int} {p : FP} {w : World} (h : FR base b pb s l o p w) : w.cell? ⟨b, 6, none⟩ = some (.int .i64 0) ∧ w.cell? ⟨b, 3, none⟩ = some (.string ⟨(Sp.tok l).toArray⟩) ∧ (⟨(Sp.tok l).toArray⟩ : ByteArray).size ≤ 400 ∧ l.length ≤ 400 := by
  have h1 := h.len
  have h2 := h.sz
  have h3 := Sp.tokLen_le l
  exact ⟨cell_of h.blk 6 rfl, cell_of h.blk 3 rfl, by rw [size_of, Sp.tok_length]; omega, by omega⟩

theorem kind_minus {l : Sp.Bs} (h : Sp.tok l = [45]) : Sp.tokKind l ≠ 3 ∧ Sp.tokKind l ≠ 2 := by
  constructor
  · intro k
    have := (digits_of_kind k).2 45 (by rw [h]; simp)
    simp [Sp.isDig] at this
  · intro k
    cases l with
    | nil => simp [Sp.tok] at h
    | cons d q =>
      have e : d = 45 := by
        unfold Sp.tok at h
        cases hn : Sp.tokLen (d :: q) with
        | zero => rw [hn] at h; simp at h
        | succ m => rw [hn, List.take_succ_cons] at h; exact (List.cons.inj h).1
      subst e
      rw [Sp.tokKind_cons] at k
      simp [Sp.isLet, Sp.isDig] at k
      split at k <;> omega
theorem kind_bracket {l : Sp.Bs} (h : Sp.tok l = [40]) : Sp.tokKind l ≠ 3 ∧ Sp.tokKind l ≠ 2 := by
  constructor
  · intro k
    have := (digits_of_kind k).2 40 (by rw [h]; simp)
    simp [Sp.isDig] at this
  · intro k
    cases l with
    | nil => simp [Sp.tok] at h
    | cons d q =>
      have e : d = 40 := by
        unfold Sp.tok at h
        cases hn : Sp.tokLen (d :: q) with
        | zero => rw [hn] at h; simp at h
        | succ m => rw [hn, List.take_succ_cons] at h; exact (List.cons.inj h).1
      subst e
      rw [Sp.tokKind_cons] at k
      simp [Sp.isLet, Sp.isDig] at k
      split at k <;> omega

/-- a read in either mode -/
theorem reads_fx {f : FuncId} {base b pb : Nat} {s : ByteArray} {o n : Nat} {u : Sp.Bs → Sp.R Sm} {v : Int} {r : Except (Nat × Nat) Sp.Bs} {p : FP} {w : World} (hr : ∀ l, r = .ok l → FReads f base b pb s o n u ∧ l.length < n ∧ FLim p l) (hi : FIdle f base b pb s v) (h : FX base b pb s r (o : Int) p w) :
    Calls Tryz.prog f #[.pointer (some ⟨b, 0, none⟩)] w fun e w' => ∃ (k : Int) (p' : FP), e = .returned (.int .i64 k) ∧ FX base b pb s (r.bind fun l => left (u l)) (o : Int) p' w' ∧ FK b pb p p' w w' ∧ (∀ l, r = .ok l → FGotS p p' l k (u l)) ∧ (∀ e, r = .error e → p' = p) := by
  cases r with
  | ok l =>
    obtain ⟨h1, h2, h3⟩ := hr l rfl
    refine (h1 l p w h2 h h3).mono ?_
    rintro e w' ⟨k, p', rfl, h1, k1, g1⟩
    exact ⟨k, p', rfl, h1, k1, fun l' hl => by cases hl; exact g1, fun _ hl => nomatch hl⟩
  | error e =>
    refine (hi e p w h).mono ?_
    rintro e' w' ⟨rfl, rfl⟩
    exact ⟨v, p, rfl, h, FK.refl _ _ _ _, (fun _ hl => nomatch hl), fun _ _ => rfl⟩

/-- the room behind a read -/
theorem got_room {u : Sp.Bs → Sp.R Sm} {r : Except (Nat × Nat) Sp.Bs} {p p' : FP} {l : Sp.Bs} {k : Int} (hl : FLim p l) (hr : ∀ l1, r = .ok l1 → l1.length ≤ l.length) (g : ∀ l1, r = .ok l1 → FGotS p p' l1 k (u l1)) (e : ∀ e, r = .error e → p' = p) : p'.ns.length + 1 ≤ 1000000 := by
  obtain ⟨h1, h2, _⟩ := hl
  cases r with
  | error er => rw [e er rfl]; omega
  | ok l1 =>
    have g1 := g l1 rfl
    have := hr l1 rfl
    cases hu : u l1 with
    | error er => rw [hu] at g1; have := (show FBad p p' l1 from g1).2; omega
    | ok xl => rw [hu] at g1; have := g1.1.nl; omega

theorem neg_fin {base b pb : Nat} {s : ByteArray} {o : Nat} {u : Sp.Bs → Sp.R Sm} {p p1 : FP} {l : Sp.Bs} {k : Int} {n : FNode} {v : Value} {w w' : World} (ht : Sp.tok l = [45]) (hn : n.kind = 3) (ha : n.a = k)
    (g : ∀ l1, Sp.enter [45] o l = .ok l1 → FGotS p p1 l1 k (u l1)) (he : ∀ e, Sp.enter [45] o l = .error e → p1 = p)
    (h5 : FX base b pb s ((Sp.enter [45] o l).bind fun l => left (u l)) (o : Int) { p1 with ns := p1.ns ++ [n], nv := v } w') (k5 : FK b pb p { p1 with ns := p1.ns ++ [n], nv := v } w w') :
    FPostS base b pb s o p l w (negOf Tr u o l) (.returned (.int .i64 (p1.ns.length : Nat))) w' := by
  have hnx := Sp.next_lt_of_tok ht (by simp)
  refine ⟨_, _, rfl, ?_, k5, ?_⟩
  · cases hq : Sp.enter [45] o l with
    | error e => rw [hq] at h5; unfold negOf; rw [hq]; exact h5
    | ok l1 =>
      rw [hq] at h5; unfold negOf; rw [hq]
      simp only [Except.bind] at h5 ⊢
      cases hu : u l1 with
      | error e => rw [hu] at h5; exact h5
      | ok xl => rw [hu] at h5; exact h5
  · cases hq : Sp.enter [45] o l with
    | error e =>
      unfold negOf; rw [hq]
      show FBad p _ l
      rw [he e hq]
      exact ⟨⟨[n], rfl⟩, by simp; omega⟩
    | ok l1 =>
      obtain ⟨_, _, hl1⟩ := Sp.enter_ok_iff hq
      have g1 := g l1 hq
      unfold negOf; rw [hq]
      simp only
      cases hu : u l1 with
      | error e =>
        rw [hu] at g1
        exact FBad.node (l1 := l1) g1 (by rw [hl1]; omega) n v
      | ok xl =>
        obtain ⟨x, l2⟩ := xl
        rw [hu] at g1
        obtain ⟨m1, ⟨j, hj1, hj2, hj3⟩, hq1⟩ := g1
        have hm : FMade p p1 l l2 := (FMade.eat (by rw [hl1]; omega)).trans m1
        refine ⟨hm.node n v (by have := m1.nl; rw [hl1] at this; omega), ⟨p1.ns.length, rfl, by simp, ?_⟩, hq1⟩
        refine ⟨n, j, by simp, hn, by rw [ha, hj1], hj2, hj3.mono (Nat.le_refl _) (fun i _ hi => ?_)⟩
        show (p1.ns ++ [n])[i]? = _
        rw [List.getElem?_append_left (by omega)]

set_option maxHeartbeats 8000000 in
theorem unary_minus (base b pb : Nat) (s : ByteArray) (o n : Nat) (ho : o ≤ 12) (hr : o < 12 → FReads 210 base b pb s (o + 1) n (Sp.pUnary Tr n (o + 1)))
    (l : Sp.Bs) (p : FP) (w : World) (hl : l.length < n + 1) (h : FR base b pb s l (o : Int) p w) (hlim : FLim p l) (ht : Sp.tok l = [45]) :
    Calls Tryz.prog 210 #[.pointer (some ⟨b, 0, none⟩)] w (FPostS base b pb s o p l w (Sp.pUnary Tr (n + 1) o l)) := by
  obtain ⟨c6, c3, hsz, hl4⟩ := h.asks
  have hE : Hid (Sp.pUnary Tr (n + 1) o l = negOf Tr (Sp.pUnary Tr n (o + 1)) o l) := by
    unfold Hid; rw [pUnary_succ, if_neg (kind_minus ht).1, if_neg (kind_minus ht).2, if_pos ht]
  have HN : Hid (∀ w, Calls Tryz.prog 129 #[.string ⟨[45].toArray⟩] w fun e w' => e = .returned (.bool (Sp.nameVal l).isSome) ∧ w' = w) := by rw [← ht]; exact fIsName_calls l hl4
  have hnx := Sp.next_lt_of_tok ht (by simp)
  rw [ht] at c3 hsz
  have hent : Hid (∀ l1, Sp.enter [45] o l = .ok l1 → l1 = Sp.next l ∧ o < 12) := fun l1 e => by
    obtain ⟨_, h2, h3⟩ := Sp.enter_ok_iff e
    exact ⟨h3, by omega⟩
  have HR : Hid (o < 12 → FReads 210 base b pb s (o + 1) n (Sp.pUnary Tr n (o + 1))) := hr
  have HT : Hid (Sp.tok l = [45]) := ht
  clear hr ht
  go_enter Tryz.func210, Tryz.ntmps210
  go_wp2_with fail
  refine (fValue_calls _ hsz _).mono ?_
  rintro e w1 ⟨rfl, rfl⟩
  go_wp2_with fail
  refine (HN.out _).mono ?_
  rintro e w1 ⟨rfl, rfl⟩
  go_wp2_with fail
  refine (open_fr ho h [45]).mono ?_
  rintro e w2 ⟨rfl, h2, k2⟩
  go_wp2_with fail
  refine (reads_fx (o := o + 1) (n := n) (u := Sp.pUnary Tr n (o + 1)) (fun l1 e1 => by
    obtain ⟨e2, e3⟩ := hent.out l1 e1
    refine ⟨HR.out e3, by rw [e2]; omega, ?_⟩
    rw [e2]; exact (FMade.eat (by omega)).lim hlim) (unary_idle base b pb s) h2).mono ?_
  rintro e w3 ⟨k, p1, rfl, h3, k3, g3, e3⟩
  obtain ⟨q, c5, f5, hq, hs⟩ := h3.set_open 0
  obtain ⟨h4, k4⟩ := hs (RowKit.wrap64 (q - 1)) (o : Int) (fun l e => by rw [hq l e, IntWalk.wrap64_in _ (by omega)]; omega)
  have hroom := got_room (l := l) hlim (fun l1 e1 => by rw [(hent.out l1 e1).1]; omega) g3 e3
  have H4 : Hid (_ ∧ _) := And.intro h4 k4
  have G3 : Hid (_ ∧ _) := And.intro g3 e3
  clear hs hq h4 k4 g3 e3
  go_wp2_with fail
  refine (node_calls H4.out.1 { kind := 3, a := k } hroom).mono ?_
  rintro e w5 ⟨rfl, v, h5, k5⟩
  go_wp2_with fail
  go_ret
  rw [hE.out]
  exact neg_fin HT.out rfl rfl G3.out.1 G3.out.2 h5 ((k2.trans k3).trans (H4.out.2.trans k5))

end Go.Proofs.YtiopfihjmkfdmaaGreatDoor

/- THE DOCUMENT'S ANSWER: unary, the rest of it. -/
namespace Go.Proofs.YtiopfihjmkfdmaaGreatDoor
open Go.RowKit
open Sp (Sm Bl Ct Tr)
set_option maxRecDepth 100000
set_option maxHeartbeats 8000000

theorem bracket_fin {base b pb : Nat} {s : ByteArray} {o : Nat} {u : Sp.Bs → Sp.R Sm} {p p1 : FP} {l : Sp.Bs} {k : Int} {w w' : World}
    (g : ∀ l1, Sp.enter [40] o l = .ok l1 → FGotS p p1 l1 k (u l1)) (he : ∀ e, Sp.enter [40] o l = .error e → p1 = p) (ht : Sp.tok l = [40])
    (h5 : FX base b pb s (((Sp.enter [40] o l).bind fun l => left (u l)).bind (Sp.take [41])) (o : Int) p1 w') (k5 : FK b pb p p1 w w') :
    FPostS base b pb s o p l w (bracketOf Tr u o l) (.returned (.int .i64 k)) w' := by
  have hnx := Sp.next_lt_of_tok ht (by simp)
  refine ⟨_, _, rfl, ?_, k5, ?_⟩
  · cases hq : Sp.enter [40] o l with
    | error e => rw [hq] at h5; unfold bracketOf; rw [hq]; exact h5
    | ok l1 =>
      rw [hq] at h5; unfold bracketOf; rw [hq]
      simp only [Except.bind] at h5 ⊢
      cases hu : u l1 with
      | error e => rw [hu] at h5; exact h5
      | ok xl =>
        rw [hu] at h5
        simp only [left] at h5 ⊢
        cases htk : Sp.take [41] xl.2 with
        | error e => rw [htk] at h5; exact h5
        | ok l3 => rw [htk] at h5; exact h5
  · cases hq : Sp.enter [40] o l with
    | error e =>
      unfold bracketOf; rw [hq]
      show FBad p p1 l
      rw [he e hq]; exact FBad.refl _ _
    | ok l1 =>
      obtain ⟨_, _, hl1⟩ := Sp.enter_ok_iff hq
      have g1 := g l1 hq
      unfold bracketOf; rw [hq]
      simp only
      cases hu : u l1 with
      | error e =>
        rw [hu] at g1
        exact FBad.more (l1 := l1) g1 (by rw [hl1]; omega)
      | ok xl =>
        obtain ⟨x, l2⟩ := xl
        rw [hu] at g1
        obtain ⟨m1, hj, hq1⟩ := g1
        have hm : FMade p p1 l l2 := (FMade.eat (by rw [hl1]; omega)).trans m1
        simp only
        cases htk : Sp.take [41] l2 with
        | error e =>
          exact FBad.of_made hm
        | ok l3 =>
          obtain ⟨_, h3⟩ := Sp.take_ok_iff htk
          exact ⟨hm.trans (FMade.eat (by rw [h3]; exact Sp.next_le _)), hj, hq1⟩

theorem unary_bracket (base b pb : Nat) (s : ByteArray) (o n : Nat) (ho : o ≤ 12) (hr : o < 12 → FReads 135 base b pb s (o + 1) n (Sp.pSum Tr (Sp.pUnary Tr n (o + 1)))) (hi : FIdle 135 base b pb s 0)
    (l : Sp.Bs) (p : FP) (w : World) (hl : l.length < n + 1) (h : FR base b pb s l (o : Int) p w) (hlim : FLim p l) (ht : Sp.tok l = [40]) :
    Calls Tryz.prog 210 #[.pointer (some ⟨b, 0, none⟩)] w (FPostS base b pb s o p l w (Sp.pUnary Tr (n + 1) o l)) := by
  obtain ⟨c6, c3, hsz, hl4⟩ := h.asks
  have hE : Hid (Sp.pUnary Tr (n + 1) o l = bracketOf Tr (Sp.pSum Tr (Sp.pUnary Tr n (o + 1))) o l) := by
    unfold Hid; rw [pUnary_succ, if_neg (kind_bracket ht).1, if_neg (kind_bracket ht).2, if_neg (by rw [ht]; simp)]
  have HN : Hid (∀ w, Calls Tryz.prog 129 #[.string ⟨[40].toArray⟩] w fun e w' => e = .returned (.bool (Sp.nameVal l).isSome) ∧ w' = w) := by rw [← ht]; exact fIsName_calls l hl4
  have hnx := Sp.next_lt_of_tok ht (by simp)
  rw [ht] at c3 hsz
  have hent : Hid (∀ l1, Sp.enter [40] o l = .ok l1 → l1 = Sp.next l ∧ o < 12) := fun l1 e => by
    obtain ⟨_, h2, h3⟩ := Sp.enter_ok_iff e
    exact ⟨h3, by omega⟩
  have HR : Hid (o < 12 → FReads 135 base b pb s (o + 1) n (Sp.pSum Tr (Sp.pUnary Tr n (o + 1)))) := hr
  have HI : Hid (FIdle 135 base b pb s 0) := hi
  have HT : Hid (Sp.tok l = [40]) := ht
  clear hr ht hi
  go_enter Tryz.func210, Tryz.ntmps210
  go_wp2_with fail
  refine (fValue_calls _ hsz _).mono ?_
  rintro e w1 ⟨rfl, rfl⟩
  go_wp2_with fail
  refine (HN.out _).mono ?_
  rintro e w1 ⟨rfl, rfl⟩
  go_wp2_with fail
  refine (open_fr ho h [40]).mono ?_
  rintro e w2 ⟨rfl, h2, k2⟩
  go_wp2_with fail
  refine (reads_fx (o := o + 1) (n := n) (u := Sp.pSum Tr (Sp.pUnary Tr n (o + 1))) (fun l1 e1 => by
    obtain ⟨e2, e3⟩ := hent.out l1 e1
    refine ⟨HR.out e3, by rw [e2]; omega, ?_⟩
    rw [e2]; exact (FMade.eat (by omega)).lim hlim) HI.out h2).mono ?_
  rintro e w3 ⟨k, p1, rfl, h3, k3, g3, e3⟩
  have G3 : Hid (_ ∧ _) := And.intro g3 e3
  clear g3 e3
  go_wp2_with fail
  refine (shut_fx (by omega) h3 [41]).mono ?_
  rintro e w4 ⟨rfl, h4, k4⟩
  go_wp2_with fail
  go_ret
  rw [hE.out]
  exact bracket_fin G3.out.1 G3.out.2 HT.out h4 ((k2.trans k3).trans k4)

theorem unary_name (base b pb : Nat) (s : ByteArray) (o n : Nat)
    (l : Sp.Bs) (p : FP) (w : World) (h : FR base b pb s l (o : Int) p w) (hlim : FLim p l) (kk : Nat) (hv : Sp.nameVal l = some kk) :
    Calls Tryz.prog 210 #[.pointer (some ⟨b, 0, none⟩)] w (FPostS base b pb s o p l w (Sp.pUnary Tr (n + 1) o l)) := by
  obtain ⟨c6, c3, hsz, hl4⟩ := h.asks
  obtain ⟨c, ht, hkd, hc1, hc2, rfl⟩ := nameVal_some hv
  have hE : Hid (Sp.pUnary Tr (n + 1) o l = .ok (.name (c.toNat - 97), Sp.next l)) := by
    unfold Hid; rw [pUnary_succ, if_neg (by omega), if_pos hkd, pName_some hv]; rfl
  have hfv : Hid (fVal [c] = -1) := by unfold Hid; rw [← ht]; exact fVal_other (by omega)
  have HN : Hid (∀ w, Calls Tryz.prog 129 #[.string ⟨[c].toArray⟩] w fun e w' => e = .returned (.bool true) ∧ w' = w) := by
    have := fIsName_calls l hl4
    rw [ht, hv] at this; exact this
  have hnx := Sp.next_lt_of_tok ht (by simp)
  obtain ⟨t, et, hs1, hx⟩ := one_byte c
  have HV : Hid (∀ w, Calls Tryz.prog 238 #[.string t] w fun e w' => e = .returned (.int .i64 (-1)) ∧ w' = w) := by
    intro w
    have := fValue_calls t (by omega) w
    rw [et] at this ⊢
    rw [show (⟨[c].toArray⟩ : ByteArray).data.toList = [c] from rfl, hfv.out] at this
    exact this
  rw [ht, ← et] at c3
  rw [← et] at HN
  have h0 : 0 < t.size := by omega
  have hx0 : (97 : Int) ≤ (t[0].toNat : Int) ∧ (t[0].toNat : Int) ≤ 104 := by rw [hx]; omega
  have hfin : Hid (((c.toNat - 97 : Nat) : Int) = (t[0].toNat : Int) - 97) := by unfold Hid; rw [hx]; omega
  have hnd : (t.toList == [45]) = false ∧ (t.toList == [40]) = false := by
    rw [ByteArray.toList_eq, et]
    constructor
    · simp; intro e; subst e; simp at hc2
    · simp; intro e; subst e; simp at hc2
  obtain ⟨nd1, nd2⟩ := hnd
  clear hx et ht hv hkd hsz
  go_enter Tryz.func210, Tryz.ntmps210
  go_wp2_with fail
  refine (HV.out _).mono ?_
  rintro e w1 ⟨rfl, rfl⟩
  go_wp2_with fail
  refine (HN.out _).mono ?_
  rintro e w1 ⟨rfl, rfl⟩
  go_wp2_with fail
  refine (fstep_fr h).mono ?_
  rintro e w2 ⟨rfl, h2, k2⟩
  go_wp2_with fail
  refine (node_calls (r := .ok (Sp.next l)) h2 { kind := 2, n := (t[0].toNat : Int) - 97 } (by have := hlim.1; omega)).mono ?_
  rintro e w3 ⟨rfl, v, h3, k3⟩
  go_wp2_with fail
  go_ret
  rw [hE.out]
  have hm : FMade p p l (Sp.next l) := FMade.eat (by omega)
  refine ⟨_, _, rfl, h3, k2.trans k3, hm.node _ v (by omega), ⟨p.ns.length, rfl, by simp, ?_⟩, by show p.qs = p.qs ++ []; simp⟩
  exact ⟨_, by simp; rfl, rfl, by rw [hfin.out], by omega, Nat.le_refl _, rfl⟩

end Go.Proofs.YtiopfihjmkfdmaaGreatDoor
