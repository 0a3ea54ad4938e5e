import Derived.Test.YtiopfihjmkfdmaaGreatDoorX7
namespace Go.Proofs.YtiopfihjmkfdmaaGreatDoor
namespace Sp
def HasW (w s:Bs):Prop:=∃ a b,s=a ++ w ++ b
theorem HasW.suf {w l s:Bs} (h:HasW w l) (hl:l <:+ s):HasW w s:=by
 obtain ⟨a,b,rfl⟩:=h
 obtain ⟨c,rfl⟩:=hl
 exact ⟨c ++ a,b,by simp⟩
theorem hasW_tok {w l:Bs} (h:tok l=w):HasW w l:=⟨[],l.drop (tokLen l),by rw [← h]; unfold tok; simp⟩
section
variable {A : Alg}
theorem pChain_suf {lv:Nat} {u:Bs→R A.S} (hu:∀ l x l',u l=.ok (x,l')→l' <:+ l):∀ m (x:A.S) l (y:A.S) l',pChain A lv u m x l=.ok (y,l')→l' <:+ l:=by
 intro m
 induction m with
 | zero=>intro x l y l' h; cases h; exact List.suffix_refl _
 | succ m ih =>
  intro x l y l' h
  rw [pChain_succ A lv u m x l] at h
  split at h
  ·split at h
   ·split at h
    ·next z l1 hz=>exact ((ih _ _ _ _ h).trans (hu _ _ _ hz)).trans (next_suffix l)
    ·cases h
   ·cases h; exact List.suffix_refl _
  ·cases h; exact List.suffix_refl _
theorem pWith_suf {lv:Nat} {u:Bs→R A.S} (hu:∀ l x l',u l=.ok (x,l')→l' <:+ l):∀ l x l',pWith A lv u l=.ok (x,l')→l' <:+ l:=by
 intro l x l' h
 unfold pWith at h
 split at h
 ·next y l1 hy=>exact (pChain_suf hu _ _ _ _ _ h).trans (hu _ _ _ hy)
 ·cases h
theorem pSum_suf {u:Bs→R A.S} (hu:∀ l x l',u l=.ok (x,l')→l' <:+ l):∀ l x l',pSum A u l=.ok (x,l')→l' <:+ l:=pWith_suf (pWith_suf hu)
theorem pUnary_suf:∀ n o l (x:A.S) l',pUnary A n o l=.ok (x,l')→l' <:+ l:=by
 intro n
 induction n with
 | zero=>intro o l x l' h; cases h
 | succ n ih =>
  intro o l x l' h
  unfold pUnary at h
  split at h
  ·split at h
   ·cases h; exact next_suffix l
   ·cases h
  ·split at h
   ·split at h
    ·next k l1 hk =>
     obtain ⟨_,h6⟩:=pName_ok_iff hk
     cases h
     rw [h6]; exact next_suffix l
    ·cases h
   ·split at h
    ·split at h
     ·next l1 he =>
      obtain ⟨_,_,rfl⟩:=enter_ok_iff he
      split at h
      ·next y l2 hy=>cases h; exact (ih _ _ _ _ hy).trans (next_suffix l)
      ·cases h
     ·cases h
    ·split at h
     ·next l1 he =>
      obtain ⟨_,_,rfl⟩:=enter_ok_iff he
      split at h
      ·next y l2 hy =>
       split at h
       ·next l3 ht3 =>
        obtain ⟨_,rfl⟩:=take_ok_iff ht3
        cases h
        exact ((next_suffix l2).trans (pSum_suf (ih _) _ _ _ hy)).trans (next_suffix l)
       ·cases h
      ·cases h
     ·cases h
theorem pS_suf {o:Nat} {l:Bs} {x:A.S} {l':Bs} (h:pS A o l=.ok (x,l')):l' <:+ l:=pSum_suf (pUnary_suf _ _) _ _ _ h
theorem pCond_suf {o:Nat} {l:Bs} {c:Nat × A.S × A.S} {l':Bs} (h:pCond A o l=.ok (c,l')):l' <:+ l:=by
 unfold pCond at h
 split at h
 ·next x1 l1 hx =>
  split at h
  ·split at h
   ·next y1 l2 hy=>cases h; exact ((pS_suf hy).trans (next_suffix l1)).trans (pS_suf hx)
   ·cases h
  ·cases h
 ·cases h
structure Bars (A:Alg) (src:Bs) (Q:A.T→Prop):Prop where
 assign:∀ k x,Q (A.assign k x)
 read:HasW wRead src→∀ k,Q (A.read k)
 assert:∀ k x y,Q (A.assert k x y)
 ite:∀ k x y xs,(∀ z ∈ xs,Q z)→Q (A.ite k x y xs none)
 iteElse:∀ k x y xs ys,(∀ z ∈ xs,Q z)→(∀ z ∈ ys,Q z)→Q (A.ite k x y xs (some ys))
 loop:HasW wWhile src→∀ k x y xs,(∀ z ∈ xs,Q z)→Q (A.loop k x y xs)
variable {src : Bs} {Q : A.T → Prop}
def BarsR (src:Bs) (Q:A.T→Prop) (st:Bs→R A.T):Prop:=∀ l x l',l <:+ src→st l=.ok (x,l')→l' <:+ l∧Q x
theorem pMany_bar {st:Bs→R A.T} (hs:BarsR src Q st):∀ m (acc:List A.T) l ys l',l <:+ src→(∀ z ∈ acc,Q z)→pMany A st m acc l=.ok (ys,l')→l' <:+ l∧∀ z ∈ ys,Q z:=by
 intro m
 induction m with
 | zero=>intro acc l ys l' _ ha h; cases h; exact ⟨List.suffix_refl _,ha⟩
 | succ m ih =>
  intro acc l ys l' hl ha h
  rw [pMany_succ A st m acc l] at h
  split at h
  ·split at h
   ·next x l1 hx =>
    obtain ⟨h1,h2⟩:=hs _ _ _ hl hx
    obtain ⟨h3,h4⟩:=ih _ _ _ _ (h1.trans hl) (fun z hz=>by
     rcases List.mem_append.1 hz with hz | hz
     ·exact ha z hz
     ·rw [List.mem_singleton.1 hz]; exact h2) h
    exact ⟨h3.trans h1,h4⟩
   ·cases h
  ·cases h; exact ⟨List.suffix_refl _,ha⟩
theorem pBlock_bar {st:Bs→R A.T} (hs:BarsR src Q st) {o:Nat} {l:Bs} {xs:List A.T} {l':Bs} (hl:l <:+ src) (h:pBlock A st o l=.ok (xs,l')):l' <:+ l∧∀ z ∈ xs,Q z:=by
 unfold pBlock at h
 split at h
 ·next l1 he =>
  obtain ⟨_,_,rfl⟩:=enter_ok_iff he
  split at h
  ·next ys l2 hm =>
   obtain ⟨h1,h2⟩:=pMany_bar hs _ [] _ _ _ ((next_suffix l).trans hl) (fun z hz=>by cases hz) hm
   split at h
   ·next l3 ht3 =>
    obtain ⟨_,rfl⟩:=take_ok_iff ht3
    cases h
    exact ⟨((next_suffix l2).trans h1).trans (next_suffix l),h2⟩
   ·cases h
  ·cases h
 ·cases h
theorem pStmt_bar (H:Bars A src Q):∀ n o,BarsR src Q (pStmt A n o):=by
 intro n
 induction n with
 | zero=>intro o l x l' _ h; cases h
 | succ n ih =>
  intro o l x l' hl h
  have hn:next l <:+ src:=(next_suffix l).trans hl
  unfold pStmt at h
  split at h
  ·next ht =>
   unfold pRead at h
   split at h
   ·next k l1 hk =>
    obtain ⟨h5,rfl⟩:=pName_ok_iff hk
    split at h
    ·next l2 h2 =>
     obtain ⟨_,rfl⟩:=take_ok_iff h2
     cases h
     exact ⟨((next_suffix _).trans (next_suffix _)).trans (next_suffix l),H.read ((hasW_tok ht).suf hl) k⟩
    ·cases h
   ·cases h
  ·split at h
   ·unfold pAssert at h
    split at h
    ·next k x1 y1 l1 hc =>
     split at h
     ·next l2 h6 =>
      obtain ⟨_,rfl⟩:=take_ok_iff h6
      cases h
      exact ⟨((next_suffix _).trans (pCond_suf hc)).trans (next_suffix l),H.assert _ _ _⟩
     ·cases h
    ·cases h
   ·split at h
    ·unfold pIf at h
     split at h
     ·next k x1 y1 l1 hc =>
      have s1:=pCond_suf hc
      split at h
      ·next xs l2 hb =>
       obtain ⟨h6,h7⟩:=pBlock_bar (ih _) (s1.trans hn) hb
       split at h
       ·split at h
        ·next ys l3 hb2 =>
         obtain ⟨h8,h9⟩:=pBlock_bar (ih _) (((next_suffix l2).trans h6).trans (s1.trans hn)) hb2
         cases h
         exact ⟨((h8.trans (next_suffix l2)).trans h6).trans (s1.trans (next_suffix l)),H.iteElse _ _ _ _ _ h7 h9⟩
        ·cases h
       ·cases h; exact ⟨h6.trans (s1.trans (next_suffix l)),H.ite _ _ _ _ h7⟩
      ·cases h
     ·cases h
    ·split at h
     ·next ht =>
      unfold pWhile at h
      split at h
      ·next k x1 y1 l1 hc =>
       have s1:=pCond_suf hc
       split at h
       ·next xs l2 hb =>
        obtain ⟨h6,h7⟩:=pBlock_bar (ih _) (s1.trans hn) hb
        cases h
        exact ⟨h6.trans (s1.trans (next_suffix l)),H.loop ((hasW_tok ht).suf hl) _ _ _ _ h7⟩
       ·cases h
      ·cases h
     ·unfold pAssign at h
      split at h
      ·next k l1 hk =>
       obtain ⟨h5,rfl⟩:=pName_ok_iff hk
       split at h
       ·next l2 h2 =>
        obtain ⟨_,rfl⟩:=take_ok_iff h2
        split at h
        ·next x1 l3 hx =>
         split at h
         ·next l4 h10 =>
          obtain ⟨_,rfl⟩:=take_ok_iff h10
          cases h
          exact ⟨(((next_suffix _).trans (pS_suf hx)).trans (next_suffix _)).trans (next_suffix l),H.assign _ _⟩
         ·cases h
        ·cases h
       ·cases h
      ·cases h
theorem parse_bar (H:Bars A src Q) {xs:List A.T} (h:parse A src=.ok xs):∀ z ∈ xs,Q z:=by
 unfold parse at h
 split at h
 ·cases h
 ·split at h
  ·next ys hp =>
   cases h
   unfold pProg at hp
   split at hp
   ·next zs l1 hm =>
    split at hp
    ·cases hp
     exact (pMany_bar (pStmt_bar H _ _) _ [] _ _ _ (skip_suffix src) (fun z hz=>by cases hz) hm).2
    ·cases hp
   ·cases hp
  ·cases h
end
theorem joinB_all {Q:Bl→Prop} (h0:Q .nil):∀ (fs:List (Bl→Bl)),(∀ f ∈ fs,∀ t,Q t→Q (f t))→Q (joinB fs)
 | [],_=>h0
 | f :: fs,h=>h f (List.mem_cons_self ..) _ (joinB_all h0 fs fun g hg=>h g (List.mem_cons_of_mem _ hg))
theorem tree_noLoop {src:Bs} {t:Bl} (h:tree src=.ok t) (hw:¬ HasW wWhile src):NoLoop t:=by
 unfold tree at h
 split at h
 ·next fs hp =>
  cases h
  refine joinB_all (Q:=NoLoop) trivial fs ?_
  refine parse_bar (A:=Tr) (Q:=fun f=>∀ t,NoLoop t→NoLoop (f t)) ⟨fun _ _ _ h=>h,fun _ _ _ h=>h,fun _ _ _ _ h=>h,fun k x y xs hx t ht=>?_,fun k x y xs ys hx hy t ht=>?_,fun hh=>absurd hh hw⟩ hp
  ·exact ⟨joinB_all (Q:=NoLoop) trivial xs hx,trivial,ht⟩
  ·exact ⟨joinB_all (Q:=NoLoop) trivial xs hx,joinB_all (Q:=NoLoop) trivial ys hy,ht⟩
 ·cases h
def NoRead:Bl→Prop
 | .nil=>True
 | .assign _ _ t=>NoRead t
 | .read _ _=>False
 | .assert _ _ _ t=>NoRead t
 | .ite _ _ _ xs _ ys t=>NoRead xs∧NoRead ys∧NoRead t
 | .loop _ _ _ xs t=>NoRead xs∧NoRead t
theorem tree_noRead {src:Bs} {t:Bl} (h:tree src=.ok t) (hw:¬ HasW wRead src):NoRead t:=by
 unfold tree at h
 split at h
 ·next fs hp =>
  cases h
  refine joinB_all (Q:=NoRead) trivial fs ?_
  refine parse_bar (A:=Tr) (Q:=fun f=>∀ t,NoRead t→NoRead (f t)) ⟨fun _ _ _ h=>h,fun hh=>absurd hh hw,fun _ _ _ _ h=>h,fun k x y xs hx t ht=>?_,fun k x y xs ys hx hy t ht=>?_,fun _ k x y xs hx t ht=>?_⟩ hp
  ·exact ⟨joinB_all (Q:=NoRead) trivial xs hx,trivial,ht⟩
  ·exact ⟨joinB_all (Q:=NoRead) trivial xs hx,joinB_all (Q:=NoRead) trivial ys hy,ht⟩
  ·exact ⟨joinB_all (Q:=NoRead) trivial xs hx,ht⟩
 ·cases h
end Sp
end Go.Proofs.YtiopfihjmkfdmaaGreatDoor
namespace Go.Proofs.YtiopfihjmkfdmaaGreatDoor
namespace Sp
structure Cg where
 m:Nat
 r:Int
deriving DecidableEq
def cgMem (x:Cg) (n:Int):Prop:=if x.m=0 then n=x.r else (n - x.r) % (x.m:Int)=0
instance (x:Cg) (n:Int):Decidable (cgMem x n):=by unfold cgMem; infer_instance
def cgWhole:Cg:=⟨1,0⟩
def cgTwo (k:Nat) (v:Int):Cg:=⟨Nat.gcd k 65536,v % (Nat.gcd k 65536:Nat)⟩
def cgBy (g:Nat) (v:Int):Cg:=⟨g,v % (g:Int)⟩
def cgNeg (x:Cg):Cg:=if x.m=0 then ⟨0,w16 (-x.r)⟩ else cgTwo x.m (-x.r)
def cgWork (k:Nat) (x y:Cg):Option Cg :=
 if x.m=0∧y.m=0 then (work k x.r y.r).map fun n=>⟨0,n⟩
 else if 3≤k∧y.m=0∧y.r=0 then none
 else if k=0 then some (cgTwo (Nat.gcd x.m y.m) (x.r + y.r))
 else if k=1 then some (cgTwo (Nat.gcd x.m y.m) (x.r - y.r))
 else if k=2 then (if (x.m=0∧x.r=0)∨(y.m=0∧y.r=0) then some ⟨0,0⟩ else some (cgTwo (Nat.gcd (Nat.gcd (x.m * y.m) ((x.m:Int) * y.r).natAbs) ((y.m:Int) * x.r).natAbs) (x.r * y.r)))
 else if k=3 then some cgWhole
 else some (cgBy (Nat.gcd (Nat.gcd x.m y.m) y.r.natAbs) x.r)
def cgJoin (x y:Cg):Cg:=if Nat.gcd (Nat.gcd x.m y.m) (x.r - y.r).natAbs=0 then x else cgBy (Nat.gcd (Nat.gcd x.m y.m) (x.r - y.r).natAbs) x.r
theorem w16_eq (n:Int):∃ k:Int,w16 n=n - 65536 * k:=by
 unfold w16 IntKind.wrap
 have h:(2 ^ IntKind.i16.bits:Int)=65536:=rfl
 have h2:(2 ^ (IntKind.i16.bits - 1):Int)=32768:=rfl
 simp only [h,h2]
 show ∃ k:Int,(if (true && decide (n % 65536 ≥ 32768))=true then n % 65536 - 65536 else n % 65536)=n - 65536 * k
 by_cases hc:n % 65536 ≥ 32768
 ·rw [if_pos (by simp; exact hc)]
  exact ⟨n / 65536 + 1,by omega⟩
 ·rw [if_neg (by simp; omega)]
  exact ⟨n / 65536,by omega⟩
theorem mem_iff (x:Cg) (n:Int):cgMem x n ↔ (x.m:Int) ∣ (n - x.r):=by
 unfold cgMem
 by_cases h:x.m=0
 ·rw [if_pos h,h]
  simp
  omega
 ·rw [if_neg h]
  exact Int.dvd_iff_emod_eq_zero.symm
theorem mem_by {g:Nat} {v n:Int} (h:(g:Int) ∣ n - v):cgMem (cgBy g v) n:=by
 rw [mem_iff]
 show (g:Int) ∣ n - v % (g:Int)
 have e:n - v % (g:Int)=(n - v) + (g:Int) * (v / (g:Int)):=by
  have:=Int.emod_add_mul_ediv v g
  omega
 rw [e]
 exact Int.dvd_add h (Int.dvd_mul_right _ _)
theorem mem_two {k:Nat} {v n:Int} (h:(k:Int) ∣ n - v):cgMem (cgTwo k v) (w16 n):=by
 have hk:((Nat.gcd k 65536:Nat):Int) ∣ (k:Int):=Int.natCast_dvd_natCast.2 (Nat.gcd_dvd_left _ _)
 have h2:((Nat.gcd k 65536:Nat):Int) ∣ (65536:Int):=Int.natCast_dvd_natCast.2 (Nat.gcd_dvd_right k 65536)
 obtain ⟨j,hj⟩:=w16_eq n
 refine mem_by ?_
 rw [hj,show n - 65536 * j - v=(n - v) - 65536 * j by omega]
 exact Int.dvd_sub (Int.dvd_trans hk h) (Int.dvd_trans h2 (Int.dvd_mul_right _ _))
theorem cg_join_l (x y:Cg) (n:Int) (h:cgMem x n):cgMem (cgJoin x y) n:=by
 unfold cgJoin
 by_cases hg:Nat.gcd (Nat.gcd x.m y.m) (x.r - y.r).natAbs=0
 ·rw [if_pos hg]; exact h
 ·rw [if_neg hg]
  rw [mem_iff] at h
  exact mem_by (Int.dvd_trans (Int.natCast_dvd_natCast.2 (Nat.dvd_trans (Nat.gcd_dvd_left _ _) (Nat.gcd_dvd_left _ _))) h)
theorem cg_join_r (x y:Cg) (n:Int) (h:cgMem y n):cgMem (cgJoin x y) n:=by
 unfold cgJoin
 rw [mem_iff] at h
 by_cases hg:Nat.gcd (Nat.gcd x.m y.m) (x.r - y.r).natAbs=0
 ·rw [if_pos hg,mem_iff]
  obtain ⟨h1,h2⟩:=Nat.gcd_eq_zero_iff.1 hg
  obtain ⟨h3,h4⟩:=Nat.gcd_eq_zero_iff.1 h1
  rw [h4] at h
  rw [h3]
  simp at h ⊢
  omega
 ·rw [if_neg hg]
  refine mem_by ?_
  have d1:((Nat.gcd (Nat.gcd x.m y.m) (x.r - y.r).natAbs:Nat):Int) ∣ (y.m:Int):=Int.natCast_dvd_natCast.2 (Nat.dvd_trans (Nat.gcd_dvd_left _ _) (Nat.gcd_dvd_right _ _))
  have d2:((Nat.gcd (Nat.gcd x.m y.m) (x.r - y.r).natAbs:Nat):Int) ∣ x.r - y.r:=Int.ofNat_dvd_left.2 (Nat.gcd_dvd_right _ _)
  rw [show n - x.r=(n - y.r) - (x.r - y.r) by omega]
  exact Int.dvd_sub (Int.dvd_trans d1 h) d2
theorem cg_neg (x:Cg) (n:Int) (h:cgMem x n):cgMem (cgNeg x) (w16 (-n)):=by
 unfold cgNeg
 by_cases hm:x.m=0
 ·rw [if_pos hm]
  unfold cgMem at *
  rw [if_pos hm] at h
  rw [if_pos rfl,h]
 ·rw [if_neg hm]
  rw [mem_iff] at h
  refine mem_two ?_
  rw [show -n - -x.r=-(n - x.r) by omega]
  exact Int.dvd_neg.2 h
theorem tmod_dvd (a b:Int):b ∣ a - a.tmod b:=by
 have:=Int.tmod_add_mul_tdiv a b
 exact ⟨a.tdiv b,by omega⟩
theorem cg_work (k:Nat) (x y:Cg) (a b c:Int) (_:I16 a) (_:I16 b) (ha:cgMem x a) (hb:cgMem y b) (h:work k a b=some c):∃ v,cgWork k x y=some v∧cgMem v c:=by
 unfold cgWork
 by_cases h0:x.m=0∧y.m=0
 ·rw [if_pos h0]
  unfold cgMem at ha hb
  rw [if_pos h0.1] at ha
  rw [if_pos h0.2] at hb
  subst ha; subst hb
  rw [h]
  refine ⟨_,rfl,?_⟩
  unfold cgMem
  rw [if_pos rfl]
 ·rw [if_neg h0]
  have hz:¬ (3≤k∧y.m=0∧y.r=0):=by
   rintro ⟨h3,h4,h5⟩
   unfold cgMem at hb
   rw [if_pos h4] at hb
   unfold work at h
   rw [if_neg (by omega),if_neg (by omega),if_neg (by omega),if_pos (by omega)] at h
   cases h
  rw [if_neg hz]
  rw [mem_iff] at ha hb
  have dx:((Nat.gcd x.m y.m:Nat):Int) ∣ a - x.r:=Int.dvd_trans (Int.natCast_dvd_natCast.2 (Nat.gcd_dvd_left _ _)) ha
  have dy:((Nat.gcd x.m y.m:Nat):Int) ∣ b - y.r:=Int.dvd_trans (Int.natCast_dvd_natCast.2 (Nat.gcd_dvd_right _ _)) hb
  by_cases k0:k=0
  ·subst k0
   rw [if_pos rfl]
   have hc:c=w16 (a + b):=by unfold work at h; simp at h; exact h.symm
   subst hc
   refine ⟨_,rfl,mem_two ?_⟩
   rw [show a + b - (x.r + y.r)=(a - x.r) + (b - y.r) by omega]
   exact Int.dvd_add dx dy
  rw [if_neg k0]
  by_cases k1:k=1
  ·subst k1
   rw [if_pos rfl]
   have hc:c=w16 (a - b):=by unfold work at h; simp at h; exact h.symm
   subst hc
   refine ⟨_,rfl,mem_two ?_⟩
   rw [show a - b - (x.r - y.r)=(a - x.r) - (b - y.r) by omega]
   exact Int.dvd_sub dx dy
  rw [if_neg k1]
  by_cases k2:k=2
  ·subst k2
   rw [if_pos rfl]
   have hc:c=w16 (a * b):=by unfold work at h; simp at h; exact h.symm
   subst hc
   by_cases hzz:(x.m=0∧x.r=0)∨(y.m=0∧y.r=0)
   ·rw [if_pos hzz]
    refine ⟨_,rfl,?_⟩
    have:a * b=0:=by
     rcases hzz with ⟨h1,h2⟩ | ⟨h1,h2⟩
     ·rw [h1] at ha
      have:a=0:=by simp at ha; omega
      rw [this]; simp
     ·rw [h1] at hb
      have:b=0:=by simp at hb; omega
      rw [this]; simp
    rw [this]
    decide
   ·rw [if_neg hzz]
    refine ⟨_,rfl,mem_two ?_⟩
    obtain ⟨p,hp⟩:=ha
    obtain ⟨q,hq⟩:=hb
    have ea:a=x.r + x.m * p:=by omega
    have eb:b=y.r + y.m * q:=by omega
    have d1:((Nat.gcd (Nat.gcd (x.m * y.m) ((x.m:Int) * y.r).natAbs) ((y.m:Int) * x.r).natAbs:Nat):Int) ∣ (x.m:Int) * y.m:=by
     have:=Int.natCast_dvd_natCast.2 (Nat.dvd_trans (Nat.gcd_dvd_left (Nat.gcd (x.m * y.m) ((x.m:Int) * y.r).natAbs) ((y.m:Int) * x.r).natAbs) (Nat.gcd_dvd_left _ _))
     simpa using this
    have d2:((Nat.gcd (Nat.gcd (x.m * y.m) ((x.m:Int) * y.r).natAbs) ((y.m:Int) * x.r).natAbs:Nat):Int) ∣ (x.m:Int) * y.r:=Int.ofNat_dvd_left.2 (Nat.dvd_trans (Nat.gcd_dvd_left _ _) (Nat.gcd_dvd_right _ _))
    have d3:((Nat.gcd (Nat.gcd (x.m * y.m) ((x.m:Int) * y.r).natAbs) ((y.m:Int) * x.r).natAbs:Nat):Int) ∣ (y.m:Int) * x.r:=Int.ofNat_dvd_left.2 (Nat.gcd_dvd_right _ _)
    have e:a * b - x.r * y.r=(x.m * y.m) * (p * q) + (x.m * y.r) * p + (y.m * x.r) * q:=by
     rw [ea,eb,Int.add_mul,Int.mul_add,Int.mul_add]
     have e1:x.r * (↑y.m * q)=(y.m * x.r) * q:=by rw [← Int.mul_assoc,Int.mul_comm x.r]
     have e2:↑x.m * p * y.r=(x.m * y.r) * p:=by rw [Int.mul_assoc,Int.mul_comm p,← Int.mul_assoc]
     have e3:↑x.m * p * (↑y.m * q)=(x.m * y.m) * (p * q):=by
      rw [Int.mul_assoc,Int.mul_assoc,← Int.mul_assoc p,Int.mul_comm p,Int.mul_assoc]
     rw [e1,e2,e3]
     omega
    rw [e]
    exact Int.dvd_add (Int.dvd_add (Int.dvd_trans d1 (Int.dvd_mul_right _ _)) (Int.dvd_trans d2 (Int.dvd_mul_right _ _))) (Int.dvd_trans d3 (Int.dvd_mul_right _ _))
  rw [if_neg k2]
  by_cases k3:k=3
  ·rw [if_pos k3]
   refine ⟨_,rfl,?_⟩
   rw [mem_iff]
   exact Int.one_dvd _
  ·rw [if_neg k3]
   refine ⟨_,rfl,mem_by ?_⟩
   have hc:c=a.tmod b:=by
    unfold work at h
    rw [if_neg k0,if_neg k1,if_neg k2] at h
    split at h
    ·cases h
    ·cases h
     rfl
   subst hc
   have g1:((Nat.gcd (Nat.gcd x.m y.m) y.r.natAbs:Nat):Int) ∣ ((Nat.gcd x.m y.m:Nat):Int):=Int.natCast_dvd_natCast.2 (Nat.gcd_dvd_left _ _)
   have g2:((Nat.gcd (Nat.gcd x.m y.m) y.r.natAbs:Nat):Int) ∣ y.r:=Int.ofNat_dvd_left.2 (Nat.gcd_dvd_right _ _)
   have g3:((Nat.gcd (Nat.gcd x.m y.m) y.r.natAbs:Nat):Int) ∣ b:=by
    rw [show b=(b - y.r) + y.r by omega]
    exact Int.dvd_add (Int.dvd_trans g1 dy) g2
   rw [show a.tmod b - x.r=(a - x.r) - (a - a.tmod b) by omega]
   exact Int.dvd_sub (Int.dvd_trans g1 dx) (Int.dvd_trans g3 (tmod_dvd a b))
def cgFirst (p:Int→Bool):Nat→Int→Option Int
 | 0,_=>none
 | f + 1,n=>if p n then some n else cgFirst p f (n + 1)
theorem cgFirst_some {p:Int→Bool}:∀ {f:Nat} {n g:Int},cgFirst p f n=some g→p g=true∧n≤g∧g<n + f∧∀ k,n≤k→k<g→p k=false
 | 0,_,_,h=>by cases h
 | f + 1,n,g,h=>by
  unfold cgFirst at h
  by_cases hp:p n=true
  ·rw [if_pos hp] at h
   cases h
   exact ⟨hp,Int.le_refl _,by omega,fun k h1 h2=>by omega⟩
  ·rw [if_neg hp] at h
   obtain ⟨h1,h2,h3,h4⟩:=cgFirst_some h
   refine ⟨h1,by omega,by omega,fun k k1 k2=>?_⟩
   by_cases e:k=n
   ·subst e; simpa using hp
   ·exact h4 k (by omega) k2
theorem cgFirst_none {p:Int→Bool}:∀ {f:Nat} {n:Int},cgFirst p f n=none→∀ k,n≤k→k<n + f→p k=false
 | 0,_,_,k,h1,h2=>by omega
 | f + 1,n,h,k,h1,h2=>by
  unfold cgFirst at h
  by_cases hp:p n=true
  ·rw [if_pos hp] at h; cases h
  ·rw [if_neg hp] at h
   by_cases e:k=n
   ·subst e; simpa using hp
   ·exact cgFirst_none h k (by omega) (by omega)
def cgBoth (x y:Cg) (n:Int):Bool:=decide (cgMem x n) && decide (cgMem y n)
def cgMeet (x y:Cg):Option Cg:=match cgFirst (cgBoth x y) 65536 (-32768) with
 | none=>none
 | some f=>some (match cgFirst (cgBoth x y) (32767 - f).toNat (f + 1) with
  | none=>⟨0,f⟩
  | some g=>cgBy (g - f).toNat f)
theorem both_iff {x y:Cg} {n:Int}:cgBoth x y n=true ↔ ((x.m:Int) ∣ n - x.r)∧((y.m:Int) ∣ n - y.r):=by
 unfold cgBoth
 rw [Bool.and_eq_true,decide_eq_true_eq,decide_eq_true_eq,mem_iff,mem_iff]
theorem cg_meet {x y:Cg} {n:Int} (hn:I16 n) (hx:cgMem x n) (hy:cgMem y n):∃ v,cgMeet x y=some v∧cgMem v n:=by
 have hb:cgBoth x y n=true:=by unfold cgBoth; simp [hx,hy]
 unfold I16 at hn
 unfold cgMeet
 cases hf:cgFirst (cgBoth x y) 65536 (-32768) with
 | none =>
  have:=cgFirst_none hf n (by omega) (by omega)
  rw [this] at hb; cases hb
 | some f =>
  obtain ⟨f1,f2,f3,f4⟩:=cgFirst_some hf
  have hfn:f≤n:=by
   rcases Int.lt_or_le n f with h | h
   ·have:=f4 n (by omega) h
    rw [this] at hb; cases hb
   ·exact h
  refine ⟨_,rfl,?_⟩
  cases hg:cgFirst (cgBoth x y) (32767 - f).toNat (f + 1) with
  | none =>
   have:n=f:=by
    rcases Int.lt_or_le f n with h | h
    ·have:=cgFirst_none hg n (by omega) (by omega)
     rw [this] at hb; cases hb
    ·omega
   rw [this,mem_iff]
   simp
  | some g =>
   obtain ⟨g1,g2,g3,g4⟩:=cgFirst_some hg
   refine mem_by ?_
   have hD:(((g - f).toNat:Nat):Int)=g - f:=by omega
   rw [hD]
   obtain ⟨fx,fy⟩:=both_iff.1 f1
   obtain ⟨gx,gy⟩:=both_iff.1 g1
   obtain ⟨nx,ny⟩:=both_iff.1 hb
   have dx:(x.m:Int) ∣ g - f:=by
    rw [show g - f=(g - x.r) - (f - x.r) by omega]; exact Int.dvd_sub gx fx
   have dy:(y.m:Int) ∣ g - f:=by
    rw [show g - f=(g - y.r) - (f - y.r) by omega]; exact Int.dvd_sub gy fy
   have hpos:0<g - f:=by omega
   have e:=Int.emod_add_mul_ediv (n - f) (g - f)
   have t1:=Int.emod_nonneg (n - f) (b:=g - f) (by omega)
   have t2:=Int.emod_lt_of_pos (n - f) hpos
   rw [Int.dvd_iff_emod_eq_zero]
   rcases Int.lt_or_le 0 ((n - f) % (g - f)) with ht | ht
   ·have hc:cgBoth x y (f + (n - f) % (g - f))=true:=by
     rw [both_iff]
     constructor
     ·rw [show f + (n - f) % (g - f) - x.r=(n - x.r) - (g - f) * ((n - f) / (g - f)) by omega]
      exact Int.dvd_sub nx (Int.dvd_trans dx (Int.dvd_mul_right _ _))
     ·rw [show f + (n - f) % (g - f) - y.r=(n - y.r) - (g - f) * ((n - f) / (g - f)) by omega]
      exact Int.dvd_sub ny (Int.dvd_trans dy (Int.dvd_mul_right _ _))
    have:=g4 (f + (n - f) % (g - f)) (by omega) (by omega)
    rw [this] at hc; cases hc
   ·omega
def cgMay (r:Nat) (x y:Cg):Bool:=!(decide (x.m=0) && decide (y.m=0) && !holds r x.r y.r) && !(decide (r=2) && (cgMeet x y).isNone)
def cgBound (r:Nat) (x y:Cg):Option Cg:=if r=2 then cgMeet x y else some x
theorem cg_may (r:Nat) (x y:Cg) (a b:Int) (ha:I16 a) (hx:cgMem x a) (hy:cgMem y b) (h:holds r a b=true):cgMay r x y=true:=by
 unfold cgMay
 rw [Bool.and_eq_true]
 constructor
 ·by_cases h0:x.m=0∧y.m=0
  ·unfold cgMem at hx hy
   rw [if_pos h0.1] at hx
   rw [if_pos h0.2] at hy
   subst hx; subst hy
   simp [h]
  ·rcases Decidable.not_and_iff_or_not.1 h0 with h1 | h1
   ·simp [h1]
   ·simp [h1]
 ·by_cases h2:r=2
  ·subst h2
   have e:a=b:=by simpa [holds] using h
   subst e
   obtain ⟨v,hv,_⟩:=cg_meet ha hx hy
   simp [hv]
  ·simp [h2]
theorem cg_bound (r:Nat) (x y:Cg) (a b:Int) (ha:I16 a) (hx:cgMem x a) (hy:cgMem y b) (h:holds r a b=true):∃ v,cgBound r x y=some v∧cgMem v a:=by
 unfold cgBound
 by_cases h2:r=2
 ·subst h2
  rw [if_pos rfl]
  have e:a=b:=by simpa [holds] using h
  subst e
  exact cg_meet ha hx hy
 ·rw [if_neg h2]
  exact ⟨x,rfl,hx⟩
def cgDom:Dom where
 V:=Cg
 dec:=inferInstance
 num n:=⟨0,n⟩
 whole:=cgWhole
 neg:=cgNeg
 work:=cgWork
 nought x:=decide (cgMem x 0)
 join:=cgJoin
 may:=cgMay
 bound:=cgBound
 widen _ y:=y
 narrow x _:=x
 fuel:=1100000
end Sp
end Go.Proofs.YtiopfihjmkfdmaaGreatDoor
