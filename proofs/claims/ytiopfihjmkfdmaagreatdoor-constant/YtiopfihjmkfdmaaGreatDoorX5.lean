import Derived.Test.YtiopfihjmkfdmaaGreatDoorX3
import Derived.Test.YtiopfihjmkfdmaaGreatDoorX4
namespace Go.Proofs.YtiopfihjmkfdmaaGreatDoor
namespace Sp
namespace Pn
def QL {τ:Type} (Q:Nat→τ→Prop):Nat→List τ→Prop
 | _,[]=>True
 | n,x :: xs=>∃ a b,a + b≤n∧Q a x∧QL Q b xs
theorem QL.mono {τ:Type} {Q:Nat→τ→Prop}:∀ {n m:Nat} {xs:List τ},QL Q n xs→n≤m→QL Q m xs
 | _,_,[],_,_=>trivial
 | _,_,_ :: _,⟨a,b,h,h1,h2⟩,k=>⟨a,b,by omega,h1,h2⟩
theorem QL.snoc {τ:Type} {Q:Nat→τ→Prop}:∀ {n m:Nat} {xs:List τ} {x:τ},QL Q n xs→Q m x→QL Q (n + m) (xs ++ [x])
 | n,m,[],x,_,hx=>⟨m,n,by omega,hx,trivial⟩
 | n,m,y :: ys,x,⟨a,b,h,h1,h2⟩,hx=>⟨a,b + m,by omega,h1,QL.snoc h2 hx⟩
structure Made (A:Alg) (P:Nat→A.S→Prop) (Q:Nat→A.T→Prop):Prop where
 pm:∀ n m x,P n x→n≤m→P m x
 qm:∀ n m x,Q n x→n≤m→Q m x
 num:∀ v,v≤32767→P 0 (A.num v)
 name:∀ k,k<8→P 0 (A.name k)
 neg:∀ n x,P n x→P n (A.neg x)
 bin:∀ k n m x y,k<5→P n x→P m y→P (n + m + 1) (A.bin k x y)
 assign:∀ k n x,k<8→P n x→Q (n + 1) (A.assign k x)
 read:∀ k,k<8→Q 1 (A.read k)
 assert:∀ k n m x y,k<6→P n x→P m y→Q (n + m + 1) (A.assert k x y)
 ite:∀ k n m j x y xs,k<6→P n x→P m y→QL Q j xs→Q (n + m + j + 1) (A.ite k x y xs none)
 iteElse:∀ k n m j i x y xs ys,k<6→P n x→P m y→QL Q j xs→QL Q i ys→Q (n + m + j + i + 1) (A.ite k x y xs (some ys))
 loop:∀ k n m j x y xs,k<6→P n x→P m y→QL Q j xs→Q (n + m + j + 1) (A.loop k x y xs)
section
variable {A : Alg} {P : Nat → A.S → Prop} {Q : Nat → A.T → Prop} (H : Made A P Q)
def Reads (P:Nat→A.S→Prop) (u:Bs→R A.S):Prop:=∀ l x l',u l=.ok (x,l')→l'.length<l.length∧P (l.length - l'.length) x
include H in
theorem pChain_n {lv:Nat} {u:Bs→R A.S} (hu:Reads P u):∀ m a (x:A.S) l (y:A.S) l',P a x→pChain A lv u m x l=.ok (y,l')→l'.length≤l.length∧P (a + (l.length - l'.length)) y:=by
 intro m
 induction m with
 | zero=>intro a x l y l' hx h; cases h; exact ⟨Nat.le_refl _,by simpa using hx⟩
 | succ m ih =>
  intro a x l y l' hx h
  rw [pChain_succ A lv u m x l] at h
  split at h
  ·next k hk =>
   split at h
   ·split at h
    ·next z l1 hz =>
     obtain ⟨h1,h2⟩:=hu _ _ _ hz
     have h0:(next l).length<l.length:=by
      apply next_lt
      rw [← tok_length]
      apply List.length_pos_iff.2
      intro e; rw [e] at hk; simp [opOf] at hk
     obtain ⟨h3,h4⟩:=ih _ _ _ _ _ (H.bin k a _ x z (opOf_lt hk) hx h2) h
     exact ⟨by omega,H.pm _ _ _ h4 (by omega)⟩
    ·cases h
   ·cases h; exact ⟨Nat.le_refl _,by simpa using hx⟩
  ·cases h; exact ⟨Nat.le_refl _,by simpa using hx⟩
include H in
theorem pWith_n {lv:Nat} {u:Bs→R A.S} (hu:Reads P u):Reads P (pWith A lv u):=by
 intro l x l' h
 unfold pWith at h
 split at h
 ·next y l1 hy =>
  obtain ⟨h1,h2⟩:=hu _ _ _ hy
  obtain ⟨h3,h4⟩:=pChain_n H hu _ _ _ _ _ _ h2 h
  exact ⟨by omega,H.pm _ _ _ h4 (by omega)⟩
 ·cases h
include H in
theorem pSum_n {u:Bs→R A.S} (hu:Reads P u):Reads P (pSum A u):=pWith_n H (pWith_n H hu)
include H in
theorem pUnary_n:∀ n o,Reads P (pUnary A n o):=by
 intro n
 induction n with
 | zero=>intro o l x l' h; cases h
 | succ n ih =>
  intro o l x l' h
  unfold pUnary at h
  split at h
  ·next hk =>
   split at h
   ·next v hv=>cases h; exact ⟨next_lt (tokLen_pos (.inr (.inl hk))),H.pm _ _ _ (H.num v (numVal_le hv)) (Nat.zero_le _)⟩
   ·cases h
  ·split at h
   ·next hk2 =>
    split at h
    ·next k l1 hk =>
     obtain ⟨h5,h6⟩:=pName_ok_iff hk
     cases h
     exact ⟨by rw [h6]; exact next_lt (tokLen_pos (.inl hk2)),H.pm _ _ _ (H.name k (pName_lt8 hk)) (Nat.zero_le _)⟩
    ·cases h
   ·split at h
    ·split at h
     ·next l1 he =>
      obtain ⟨ht,_,rfl⟩:=enter_ok_iff he
      have h0:=next_lt_of_tok ht (by simp)
      split at h
      ·next y l2 hy =>
       cases h
       obtain ⟨h1,h2⟩:=ih _ _ _ _ hy
       exact ⟨by omega,H.pm _ _ _ (H.neg _ _ h2) (by omega)⟩
      ·cases h
     ·cases h
    ·split at h
     ·next l1 he =>
      obtain ⟨ht,_,rfl⟩:=enter_ok_iff he
      have h0:=next_lt_of_tok ht (by simp)
      split at h
      ·next y l2 hy =>
       obtain ⟨h1,h2⟩:=pSum_n H (ih _) _ _ _ hy
       split at h
       ·next l3 ht3 =>
        obtain ⟨_,rfl⟩:=take_ok_iff ht3
        have:=next_le l2
        cases h
        exact ⟨by omega,H.pm _ _ _ h2 (by omega)⟩
       ·cases h
      ·cases h
     ·cases h
include H in
theorem pS_n {o:Nat} {l:Bs} {x:A.S} {l':Bs} (h:pS A o l=.ok (x,l')):l'.length<l.length∧P (l.length - l'.length) x:=pSum_n H (pUnary_n H _ _) _ _ _ h
include H in
theorem pCond_n {o:Nat} {l:Bs} {k:Nat} {x y:A.S} {l':Bs} (h:pCond A o l=.ok ((k,x,y),l')):k<6∧l'.length<l.length∧∃ a b,a + b≤l.length - l'.length∧P a x∧P b y:=by
 unfold pCond at h
 split at h
 ·next x1 l1 hx =>
  split at h
  ·next k1 hk =>
   split at h
   ·next y1 l2 hy =>
    cases h
    obtain ⟨h1,h2⟩:=pS_n H hx
    obtain ⟨h3,h4⟩:=pS_n H hy
    have:=next_le l1
    exact ⟨relOf_lt hk,by omega,_,_,by omega,h2,h4⟩
   ·cases h
  ·cases h
 ·cases h
def ReadsT (Q:Nat→A.T→Prop) (st:Bs→R A.T):Prop:=∀ l x l',st l=.ok (x,l')→l'.length<l.length∧Q (l.length - l'.length) x
theorem pMany_n {st:Bs→R A.T} (hs:ReadsT Q st):∀ m a (acc:List A.T) l ys l',QL Q a acc→pMany A st m acc l=.ok (ys,l')→l'.length≤l.length∧QL Q (a + (l.length - l'.length)) ys:=by
 intro m
 induction m with
 | zero=>intro a acc l ys l' ha h; cases h; exact ⟨Nat.le_refl _,by simpa using ha⟩
 | succ m ih =>
  intro a acc l ys l' ha h
  rw [pMany_succ A st m acc l] at h
  split at h
  ·split at h
   ·next x l1 hx =>
    obtain ⟨h1,h2⟩:=hs _ _ _ hx
    obtain ⟨h3,h4⟩:=ih _ _ _ _ _ (ha.snoc h2) h
    exact ⟨by omega,h4.mono (by omega)⟩
   ·cases h
  ·cases h; exact ⟨Nat.le_refl _,by simpa using ha⟩
theorem pBlock_n {st:Bs→R A.T} (hs:ReadsT Q st) {o:Nat} {l:Bs} {xs:List A.T} {l':Bs} (h:pBlock A st o l=.ok (xs,l')):l'.length<l.length∧QL Q (l.length - l'.length) xs:=by
 unfold pBlock at h
 split at h
 ·next l1 he =>
  obtain ⟨ht,_,rfl⟩:=enter_ok_iff he
  have h0:=next_lt_of_tok ht (by simp)
  split at h
  ·next ys l2 hm =>
   obtain ⟨h1,h2⟩:=pMany_n hs _ 0 [] _ _ _ trivial hm
   split at h
   ·next l3 ht3 =>
    obtain ⟨_,rfl⟩:=take_ok_iff ht3
    have:=next_le l2
    cases h
    exact ⟨by omega,h2.mono (by omega)⟩
   ·cases h
  ·cases h
 ·cases h
include H in
theorem pStmt_n:∀ n o,ReadsT Q (pStmt A n o):=by
 intro n
 induction n with
 | zero=>intro o l x l' h; cases h
 | succ n ih =>
  intro o l x l' h
  unfold pStmt at h
  split at h
  ·next ht =>
   have h0:=next_lt_of_tok ht (by decide)
   unfold pRead at h
   split at h
   ·next k l1 hk =>
    obtain ⟨h5,rfl⟩:=pName_ok_iff hk
    have h6:=next_le (next l)
    split at h
    ·next l2 h2 =>
     obtain ⟨_,rfl⟩:=take_ok_iff h2
     have:=next_le (next (next l))
     cases h
     exact ⟨by omega,H.qm _ _ _ (H.read k (pName_lt8 hk)) (by omega)⟩
    ·cases h
   ·cases h
  ·split at h
   ·next ht =>
    have h0:=next_lt_of_tok ht (by decide)
    unfold pAssert at h
    split at h
    ·next k x1 y1 l1 hc =>
     obtain ⟨h1,h2,a,b,h3,h4,h5⟩:=pCond_n H hc
     split at h
     ·next l2 h6 =>
      obtain ⟨_,rfl⟩:=take_ok_iff h6
      have:=next_le l1
      cases h
      exact ⟨by omega,H.qm _ _ _ (H.assert _ _ _ _ _ h1 h4 h5) (by omega)⟩
     ·cases h
    ·cases h
   ·split at h
    ·next ht =>
     have h0:=next_lt_of_tok ht (by decide)
     unfold pIf at h
     split at h
     ·next k x1 y1 l1 hc =>
      obtain ⟨h1,h2,a,b,h3,h4,h5⟩:=pCond_n H hc
      split at h
      ·next xs l2 hb =>
       obtain ⟨h6,h7⟩:=pBlock_n (ih _) hb
       split at h
       ·split at h
        ·next ys l3 hb2 =>
         obtain ⟨h8,h9⟩:=pBlock_n (ih _) hb2
         have:=next_le l2
         cases h
         exact ⟨by omega,H.qm _ _ _ (H.iteElse _ _ _ _ _ _ _ _ _ h1 h4 h5 h7 h9) (by omega)⟩
        ·cases h
       ·cases h; exact ⟨by omega,H.qm _ _ _ (H.ite _ _ _ _ _ _ _ h1 h4 h5 h7) (by omega)⟩
      ·cases h
     ·cases h
    ·split at h
     ·next ht =>
      have h0:=next_lt_of_tok ht (by decide)
      unfold pWhile at h
      split at h
      ·next k x1 y1 l1 hc =>
       obtain ⟨h1,h2,a,b,h3,h4,h5⟩:=pCond_n H hc
       split at h
       ·next xs l2 hb =>
        obtain ⟨h6,h7⟩:=pBlock_n (ih _) hb
        cases h
        exact ⟨by omega,H.qm _ _ _ (H.loop _ _ _ _ _ _ _ h1 h4 h5 h7) (by omega)⟩
       ·cases h
      ·cases h
     ·unfold pAssign at h
      split at h
      ·next k l1 hk =>
       obtain ⟨h5,rfl⟩:=pName_ok_iff hk
       have h6:(next l).length<l.length:=by
        have h2:tokKind l=2:=by
         unfold nameVal at h5
         split at h5
         ·split at h5
          ·next hc=>exact hc.1
          ·cases h5
         ·cases h5
        exact next_lt (tokLen_pos (.inl h2))
       split at h
       ·next l2 h2 =>
        obtain ⟨_,rfl⟩:=take_ok_iff h2
        have h7:=next_le (next l)
        split at h
        ·next x1 l3 hx =>
         obtain ⟨h8,h9⟩:=pS_n H hx
         split at h
         ·next l4 h10 =>
          obtain ⟨_,rfl⟩:=take_ok_iff h10
          have:=next_le l3
          cases h
          exact ⟨by omega,H.qm _ _ _ (H.assign _ _ _ (pName_lt8 hk) h9) (by omega)⟩
         ·cases h
        ·cases h
       ·cases h
      ·cases h
include H in
theorem parse_n {s:Bs} {xs:List A.T} (h:parse A s=.ok xs):s.length≤400∧QL Q 400 xs:=by
 unfold parse at h
 split at h
 ·cases h
 ·next hs =>
  refine ⟨by omega,?_⟩
  have hs2:=skip_le s
  split at h
  ·next ys hp =>
   cases h
   unfold pProg at hp
   split at hp
   ·next zs l1 hm =>
    split at hp
    ·cases hp
     obtain ⟨_,h2⟩:=pMany_n (pStmt_n H _ _) _ 0 [] _ _ _ trivial hm
     exact h2.mono (by omega)
    ·cases hp
   ·cases hp
  ·cases h
end
end Pn
end Sp
end Go.Proofs.YtiopfihjmkfdmaaGreatDoor
