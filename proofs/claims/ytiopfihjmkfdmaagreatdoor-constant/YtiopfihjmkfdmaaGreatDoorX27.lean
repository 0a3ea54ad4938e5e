import Derived.Test.YtiopfihjmkfdmaaGreatDoorX8
import Derived.Test.YtiopfihjmkfdmaaGreatDoorX18
import Derived.Test.YtiopfihjmkfdmaaGreatDoorX21
import Derived.ChangeKeysEq
import Derived.Laws.StructEq
namespace Go.Proofs.YtiopfihjmkfdmaaGreatDoor
namespace Sp
def apartN (a b:Nat):Nat:=a / Nat.gcd a b * b
theorem apart_lcm (a b:Nat):apartN a b=Nat.lcm a b:=by
 unfold apartN Nat.lcm
 exact Nat.div_mul_right_comm (Nat.gcd_dvd_left a b) b
theorem apart_dvd (a b:Nat) (d:Int):((apartN a b:Nat):Int) ∣ d ↔ (a:Int) ∣ d∧(b:Int) ∣ d:=by
 rw [apart_lcm,Int.ofNat_dvd_left,Int.ofNat_dvd_left,Int.ofNat_dvd_left]
 exact ⟨fun h=>⟨Nat.dvd_trans (Nat.dvd_lcm_left a b) h,Nat.dvd_trans (Nat.dvd_lcm_right a b) h⟩,fun h=>Nat.lcm_dvd h.1 h.2⟩
theorem apart_pos {a b:Nat} (ha:0<a) (hb:0<b):0<apartN a b:=by
 rw [apart_lcm]
 exact Nat.lcm_pos ha hb
theorem both_next {x y:Cg} {n k:Int} (hn:cgBoth x y n=true):cgBoth x y k=true ↔ ((apartN x.m y.m:Nat):Int) ∣ k - n:=by
 rw [both_iff] at hn
 rw [both_iff,apart_dvd]
 obtain ⟨h1,h2⟩:=hn
 constructor
 ·rintro ⟨k1,k2⟩
  constructor
  ·have:=Int.dvd_sub k1 h1
   rwa [show k - x.r - (n - x.r)=k - n by omega] at this
  ·have:=Int.dvd_sub k2 h2
   rwa [show k - y.r - (n - y.r)=k - n by omega] at this
 ·rintro ⟨k1,k2⟩
  constructor
  ·have:=Int.dvd_add k1 h1
   rwa [show k - n + (n - x.r)=k - x.r by omega] at this
  ·have:=Int.dvd_add k2 h2
   rwa [show k - n + (n - y.r)=k - y.r by omega] at this
theorem first_is {p:Int→Bool} {f:Nat} {a n:Int} (h1:a≤n) (h2:n<a + f) (hp:p n=true) (hl:∀ k,a≤k→k<n→p k=false):cgFirst p f a=some n:=by
 cases hf:cgFirst p f a with
 | none=>have:=cgFirst_none hf n h1 h2; rw [hp] at this; cases this
 | some g =>
  obtain ⟨g1,g2,g3,g4⟩:=cgFirst_some hf
  by_cases hlt:g<n
  ·rw [hl g g2 hlt] at g1; cases g1
  ·by_cases hgt:n<g
   ·rw [g4 n h1 hgt] at hp; cases hp
   ·congr 1; omega
theorem first_no {p:Int→Bool} {f:Nat} {a:Int} (h:∀ k,a≤k→k<a + f→p k=false):cgFirst p f a=none:=by
 cases hf:cgFirst p f a with
 | none=>rfl
 | some g =>
  obtain ⟨g1,g2,g3,_⟩:=cgFirst_some hf
  rw [h g g2 g3] at g1; cases g1
theorem meet_first {x y:Cg} {n:Int} (hx:0<x.m) (hy:0<y.m) (hn:I16 n) (hb:cgBoth x y n=true) (hl:∀ k,-32768≤k→k<n→cgBoth x y k=false) :
  cgMeet x y=some (if 32767<n + (apartN x.m y.m:Nat) then ⟨0,n⟩ else cgBy (apartN x.m y.m) n):=by
 unfold I16 at hn
 have hL:=apart_pos hx hy
 unfold cgMeet
 rw [first_is (p:=cgBoth x y) (f:=65536) (a:=-32768) (n:=n) hn.1 (by omega) hb hl]
 simp only
 by_cases hgt:32767<n + (apartN x.m y.m:Nat)
 ·rw [if_pos hgt,first_no (fun k k1 k2=>?_)]
  cases hk:cgBoth x y k with
  | false=>rfl
  | true =>
   have hd:=(both_next hb).1 hk
   have:=Int.le_of_dvd (by omega) hd
   omega
 ·rw [if_neg hgt,first_is (n:=n + (apartN x.m y.m:Nat)) (by omega) (by omega) ((both_next hb).2 (by rw [show n + ((apartN x.m y.m:Nat):Int) - n=(apartN x.m y.m:Nat) by omega]; exact Int.dvd_refl _)) (fun k k1 k2=>?_)]
  ·simp only
   rw [show (n + ((apartN x.m y.m:Nat):Int) - n).toNat=apartN x.m y.m by omega]
  ·cases hk:cgBoth x y k with
   | false=>rfl
   | true =>
    have hd:=(both_next hb).1 hk
    have:=Int.le_of_dvd (by omega) hd
    omega
theorem meet_no {x y:Cg} (h:∀ k,I16 k→cgBoth x y k=false):cgMeet x y=none:=by
 unfold cgMeet
 rw [first_no (fun k k1 k2=>h k ⟨k1,by omega⟩)]
theorem meet_one {x:Cg} {b:Int} (hb:I16 b):cgMeet x ⟨0,b⟩=(if cgMem x b then some ⟨0,b⟩ else none)∧cgMeet ⟨0,b⟩ x=(if cgMem x b then some ⟨0,b⟩ else none):=by
 have e1:∀ k,cgBoth x ⟨0,b⟩ k=true ↔ k=b∧cgMem x b:=fun k=>by
  unfold cgBoth
  rw [Bool.and_eq_true,decide_eq_true_eq,decide_eq_true_eq]
  constructor
  ·rintro ⟨h1,h2⟩
   have h2:k=b:=h2
   subst h2
   exact ⟨rfl,h1⟩
  ·rintro ⟨rfl,h2⟩
   exact ⟨h2,(rfl:k=k)⟩
 have e2:∀ k,cgBoth ⟨0,b⟩ x k=true ↔ k=b∧cgMem x b:=fun k=>by
  rw [← e1 k]
  unfold cgBoth
  rw [Bool.and_eq_true,Bool.and_eq_true,and_comm]
 have aux:∀ u v:Cg,(∀ k,cgBoth u v k=true ↔ k=b∧cgMem x b)→cgMeet u v=if cgMem x b then some ⟨0,b⟩ else none:=by
  intro u v e
  by_cases hm:cgMem x b
  ·rw [if_pos hm]
   unfold I16 at hb
   unfold cgMeet
   rw [first_is (p:=cgBoth u v) (f:=65536) (a:=-32768) (n:=b) hb.1 (by omega) ((e b).2 ⟨rfl,hm⟩) (fun k _ k2=>?_)]
   ·simp only
    rw [first_no (fun k k1 _=>?_)]
    cases hk:cgBoth u v k with
    | false=>rfl
    | true=>have:=((e k).1 hk).1; omega
   ·cases hk:cgBoth u v k with
    | false=>rfl
    | true=>have:=((e k).1 hk).1; omega
  ·rw [if_neg hm]
   refine meet_no (fun k _=>?_)
   cases hk:cgBoth u v k with
   | false=>rfl
   | true=>exact absurd ((e k).1 hk).2 hm
 exact ⟨aux _ _ e1,aux _ _ e2⟩
theorem meet_comm (x y:Cg):cgMeet x y=cgMeet y x:=by
 have:cgBoth x y=cgBoth y x:=by
  funext k
  unfold cgBoth
  exact Bool.and_comm _ _
 unfold cgMeet
 rw [this]
def firstOf (x:Cg):Int:=-32768 + (x.r + 32768) % (x.m:Int)
theorem first_mem {x:Cg} (k:Nat):cgMem x (firstOf x + (k:Int) * x.m):=by
 rw [mem_iff]
 unfold firstOf
 have:=Int.emod_add_mul_ediv (x.r + 32768) x.m
 refine ⟨k - (x.r + 32768) / (x.m:Int),?_⟩
 rw [Int.mul_sub,Int.mul_comm (x.m:Int) (k:Int)]
 omega
theorem first_low {x:Cg} (hx:0<x.m) {n:Int} (h:cgMem x n) (hn:-32768≤n):∃ k:Nat,n=firstOf x + (k:Int) * x.m:=by
 rw [mem_iff] at h
 obtain ⟨c,hc⟩:=h
 have he:=Int.emod_add_mul_ediv (x.r + 32768) x.m
 have h0:=Int.emod_nonneg (x.r + 32768) (show (x.m:Int) ≠ 0 by omega)
 have h1:=Int.emod_lt_of_pos (x.r + 32768) (show (0:Int)<x.m by omega)
 have hd:n - firstOf x=(x.m:Int) * (c + (x.r + 32768) / (x.m:Int)):=by
  unfold firstOf
  rw [Int.mul_add]
  omega
 have hge:0≤c + (x.r + 32768) / (x.m:Int):=by
  apply Classical.byContradiction
  intro hneg
  have:(x.m:Int) * (c + (x.r + 32768) / (x.m:Int))≤(x.m:Int) * (-1):=Int.mul_le_mul_of_nonneg_left (by omega) (by omega)
  unfold firstOf at hd
  omega
 refine ⟨(c + (x.r + 32768) / (x.m:Int)).toNat,?_⟩
 rw [Int.toNat_of_nonneg hge,Int.mul_comm]
 omega
theorem meet_found {x y:Cg} (hx:0<x.m) (hy:0<y.m) {k:Nat} (hm:firstOf x + (k:Int) * x.m≤32767) (hh:cgMem y (firstOf x + (k:Int) * x.m)) (hl:∀ j:Nat,j<k→¬ cgMem y (firstOf x + (j:Int) * x.m)) :
  cgMeet x y=some (if 32767<firstOf x + (k:Int) * x.m + (apartN x.m y.m:Nat) then ⟨0,firstOf x + (k:Int) * x.m⟩ else cgBy (apartN x.m y.m) (firstOf x + (k:Int) * x.m)):=by
 have h0:=Int.emod_nonneg (x.r + 32768) (show (x.m:Int) ≠ 0 by omega)
 have hk0:0≤(k:Int) * x.m:=Int.mul_nonneg (by omega) (by omega)
 refine meet_first hx hy ⟨by unfold firstOf; omega,hm⟩ ?_ (fun n n1 n2=>?_)
 ·unfold cgBoth
  rw [Bool.and_eq_true,decide_eq_true_eq,decide_eq_true_eq]
  exact ⟨first_mem k,hh⟩
 ·cases hb:cgBoth x y n with
  | false=>rfl
  | true =>
   unfold cgBoth at hb
   rw [Bool.and_eq_true,decide_eq_true_eq,decide_eq_true_eq] at hb
   obtain ⟨j,rfl⟩:=first_low hx hb.1 n1
   refine absurd hb.2 (hl j ?_)
   apply Classical.byContradiction
   intro hjk
   have:(k:Int) * x.m≤(j:Int) * x.m:=Int.mul_le_mul_of_nonneg_right (by omega) (by omega)
   omega
theorem meet_none {x y:Cg} (hx:0<x.m) (hy:0<y.m) {k:Nat} (hk:32767<firstOf x + (k:Int) * x.m∨((apartN x.m y.m:Nat):Int)≤(k:Int) * x.m) (hl:∀ j:Nat,j<k→¬ cgMem y (firstOf x + (j:Int) * x.m)) :
  cgMeet x y=none:=by
 have hL:=apart_pos hx hy
 -- any common number has one in the first stretch
 have key:∀ n:Nat,∀ j:Nat,j≤n→firstOf x + (j:Int) * x.m≤32767→¬ cgMem y (firstOf x + (j:Int) * x.m):=by
  intro n
  induction n with
  | zero =>
   intro j hj hle
   have:j=0:=by omega
   subst this
   by_cases h0:0<k
   ·exact hl 0 h0
   ·have:k=0:=by omega
    subst this
    rcases hk with hk | hk
    ·omega
    ·simp at hk; omega
  | succ n ih =>
   intro j hj hle hm
   by_cases hjk:j<k
   ·exact hl j hjk hm
   ·have hkj:(k:Int) * x.m≤(j:Int) * x.m:=Int.mul_le_mul_of_nonneg_right (by omega) (by omega)
    rcases hk with hk | hk
    ·omega
    ·-- j * m - L is a multiple of m
     have hdx:(x.m:Int) ∣ ((apartN x.m y.m:Nat):Int):=((apart_dvd x.m y.m _).1 (Int.dvd_refl _)).1
     have hdy:(y.m:Int) ∣ ((apartN x.m y.m:Nat):Int):=((apart_dvd x.m y.m _).1 (Int.dvd_refl _)).2
     obtain ⟨c,hc⟩:=hdx
     have hc0:0<c:=by
      apply Classical.byContradiction
      intro h
      have:(x.m:Int) * c≤0:=Int.mul_nonpos_of_nonneg_of_nonpos (by omega) (by omega)
      omega
     have hcj:c≤j:=by
      apply Classical.byContradiction
      intro h
      have:(j:Int) * x.m<c * x.m:=Int.mul_lt_mul_of_pos_right (by omega) (by omega)
      rw [Int.mul_comm c] at this
      omega
     have e:firstOf x + ((j - c.toNat:Nat):Int) * x.m=firstOf x + (j:Int) * x.m - ((apartN x.m y.m:Nat):Int):=by
      rw [hc,show ((j - c.toNat:Nat):Int)=(j:Int) - c by omega,Int.sub_mul,Int.mul_comm c]
      omega
     refine ih (j - c.toNat) (by omega) (by rw [e]; omega) ?_
     rw [e,mem_iff]
     rw [mem_iff] at hm
     have:=Int.dvd_sub hm hdy
     rwa [show firstOf x + (j:Int) * x.m - y.r - ((apartN x.m y.m:Nat):Int)=firstOf x + (j:Int) * x.m - ((apartN x.m y.m:Nat):Int) - y.r by omega] at this
 refine meet_no (fun n hn=>?_)
 cases hb:cgBoth x y n with
 | false=>rfl
 | true =>
  unfold cgBoth at hb
  rw [Bool.and_eq_true,decide_eq_true_eq,decide_eq_true_eq] at hb
  obtain ⟨j,rfl⟩:=first_low hx hb.1 hn.1
  exact absurd hb.2 (key j j (Nat.le_refl _) hn.2)
end Sp
end Go.Proofs.YtiopfihjmkfdmaaGreatDoor
namespace Go.Proofs.YtiopfihjmkfdmaaGreatDoor
namespace Sp
section
variable {D : Dom}
structure WdTo (K:Rk D) (next:D.St→D.St) (delay:Nat) (U:D.St) (k f:Nat) (sj:D.St):Prop where
 sum:f + k=D.fuel + 1
 eq:fixF D next delay f k sj=U
 wf:Wf K sj
 no:sj=none→next none=none
 up:∀ e,sj=some e→8 * K.top<rkE K e + f
theorem WdTo.start {K:Rk D} {next:D.St→D.St} {delay:Nat} {U s:D.St} (hU:fixF D next delay D.fuel 1 s=U) (hs:Wf K s) (h0:s=none→next none=none):WdTo K next delay U 1 D.fuel s :=
 ⟨rfl,hU,hs,h0,fun _ _=>Nat.lt_of_lt_of_le K.fuel (Nat.le_add_left _ _)⟩
theorem WdTo.end {K:Rk D} {next:D.St→D.St} {delay:Nat} {U:D.St} {k f:Nat} {sj:D.St} (h:WdTo K next delay U k f sj) (he:eqS D (jn D sj (next sj)) sj=true):sj=U:=by
 have:=h.eq
 cases f with
 | zero=>exact this
 | succ f =>
  rw [fixF_succ,if_pos he] at this
  exact this
theorem WdTo.on {K:Rk D} {next:D.St→D.St} {delay:Nat} {U:D.St} {k f:Nat} {sj:D.St} (h:WdTo K next delay U k f sj) (hn:∀ i,Wf K i→Wf K (next i)) (he:eqS D (jn D sj (next sj)) sj=false) :
  ∃ e n f',sj=some e∧(∀ k,K.wf (e k))∧jn D sj (next sj)=some n∧(∀ k,K.wf (n k))∧f=f' + 1∧WdTo K next delay U (k + 1) f' (stepV D next delay k sj):=by
 have hne:¬ jn D sj (next sj)=sj:=fun e=>by rw [(eqS_iff D _ _).2 e] at he; cases he
 cases sj with
 | none=>rw [h.no rfl] at hne; exact absurd rfl hne
 | some e =>
  have we:=h.wf e rfl
  have hj:Wf K (jn D (some e) (next (some e))):=wf_jn h.wf (hn _ h.wf)
  obtain ⟨n,hn'⟩:∃ n,jn D (some e) (next (some e))=some n:=by
   cases hx:next (some e) with
   | none=>exact ⟨_,rfl⟩
   | some t=>exact ⟨_,rfl⟩
  obtain ⟨g,h1,h2,h3⟩:=step_rise (K:=K) we (hn _ h.wf) delay k hne
  have hup:=h.up e rfl
  have hle:=rkE_le (K:=K) we
  obtain ⟨f',rfl⟩:∃ f',f=f' + 1:=⟨f - 1,by omega⟩
  refine ⟨e,n,f',rfl,we,hn',hj n hn',rfl,?_⟩
  have hsum:=h.sum
  have heq:=h.eq
  rw [fixF_succ,if_neg (by rw [he]; exact Bool.noConfusion)] at heq
  refine ⟨by omega,heq,?_,?_,?_⟩
  ·rw [h1]; exact Wf.some h2
  ·intro e; rw [h1] at e; cases e
  ·intro e he'
   rw [h1] at he'
   cases he'
   omega
structure NrTo (K:Rk D) (cond:CondF D) (body:BodyF D) (s U:D.St) (n:Nat) (sj:D.St):Prop where
 eq:narF D (nxtV D cond body s) n sj=U
 wf:Wf K sj
 no:s=none→sj=none
 sub:∀ e,s=some e→subS K (some e) sj
theorem NrTo.start {K:Rk D} {P:Pol} {cond:CondF D} {body:BodyF D} (hc:CondWf K cond) (hb:BodyWf K body) (nc:CondNo cond) (nb:BodyNo body) {s:D.St} (hs:Wf K s) :
  NrTo K cond body s (allV D P cond body s) P.narrow (fixF D (nxtV D cond body s) P.delay D.fuel 1 s):=by
 have hn:∀ i,Wf K i→Wf K (nxtV D cond body s i):=fun i hi=>nxt_wf hc hb hs hi
 have h0:s=none→nxtV D cond body s none=none:=fun e=>by
  subst e
  unfold nxtV
  rw [nc,nb]; rfl
 refine ⟨rfl,fixF_wf hn P.delay D.fuel 1 s hs,fun e=>?_,fun e he=>?_⟩
 ·have h1:=h0 e
  subst e
  exact fixF_none h1 _ _ _
 ·subst he
  obtain ⟨i,h1,h2⟩:=fixF_fix hn P.delay D.fuel 1 e (hs e rfl) (by have:=K.fuel; omega)
  rw [h1]
  exact fix_sub h2
theorem NrTo.on {K:Rk D} {cond:CondF D} {body:BodyF D} (hc:CondWf K cond) (hb:BodyWf K body) {s U:D.St} (hs:Wf K s) {n:Nat} {sj:D.St} (h:NrTo K cond body s U (n + 1) sj) :
  NrTo K cond body s U n (eachV D D.narrow sj (nxtV D cond body s sj))∧(sj=none∨∃ e e',sj=some e∧nxtV D cond body s sj=some e'∧(∀ k,K.wf (e k))∧(∀ k,K.wf (e' k))):=by
 have hw:=nxt_wf hc hb hs h.wf
 cases s with
 | none =>
  have h1:=h.no rfl
  have h2:=h.eq
  subst h1
  exact ⟨⟨h2,wf_none,fun _=>rfl,fun e he=>by cases he⟩,.inl rfl⟩
 | some e =>
  obtain ⟨h1,h2⟩:=narrow_wf (hs e rfl) h.wf hw (h.sub e rfl) (subS_l _ _)
  obtain ⟨g,hg,_⟩:=h.sub e rfl e rfl
  obtain ⟨q,hq,_⟩:=(subS_l (K:=K) (some e) (body (cond sj).2.1).2) e rfl
  have hq':nxtV D cond body (some e) sj=some q:=hq
  refine ⟨⟨h.eq,h1,(fun e=>by cases e),fun e' he'=>by cases he'; exact h2⟩,.inr ⟨g,q,hg,hq',h.wf g hg,hw q hq'⟩⟩
theorem nxt_none {cond:CondF D} {body:BodyF D} (nc:CondNo cond) (nb:BodyNo body) {s:D.St} (h:s=none):nxtV D cond body s none=none:=by
 subst h
 unfold nxtV
 rw [nc,nb]; rfl
theorem anW_point {K:Rk D} {P:Pol} {cond:CondF D} {body:BodyF D} (hc:CondWf K cond) (hb:BodyWf K body) (p:Int) {e:D.Env} (he:∀ k,K.wf (e k)):∃ s',Tel.point p s' ∈ (anW D P cond body p (some e)).1:=by
 unfold anW
 cases hn:P.unroll with
 | zero =>
  obtain ⟨g,hg,_⟩:=(allV_some (P:=P) hc hb he).2 e rfl
  refine ⟨g,?_⟩
  simp only [unrF,List.nil_append]
  rw [hg]
  simp [telP]
 | succ n =>
  refine ⟨e,?_⟩
  simp [unrF,telP]
structure UnTo (K:Rk D) (cond:CondF D) (body:BodyF D) (p:Int) (U:List (Tel D.V) × D.St × D.St) (m:Nat) (ej:List (Tel D.V)) (oj sj:D.St):Prop where
 eq:U=(ej ++ (unrF D cond body p m oj sj).1,(unrF D cond body p m oj sj).2)
 wo:Wf K oj
 ws:Wf K sj
theorem UnTo.start {K:Rk D} (cond:CondF D) (body:BodyF D) (p:Int) (m:Nat) {s:D.St} (hs:Wf K s):UnTo K cond body p (unrF D cond body p m none s) m [] none s:=⟨rfl,wf_none,hs⟩
theorem UnTo.end {K:Rk D} {cond:CondF D} {body:BodyF D} {p:Int} {U:List (Tel D.V) × D.St × D.St} {ej:List (Tel D.V)} {oj sj:D.St} (h:UnTo K cond body p U 0 ej oj sj):U=(ej,oj,sj):=by
 rw [h.eq]
 simp [unrF]
theorem UnTo.parts {K:Rk D} {cond:CondF D} {body:BodyF D} {p:Int} {U:List (Tel D.V) × D.St × D.St} {m:Nat} {ej:List (Tel D.V)} {oj sj:D.St} (h:UnTo K cond body p U (m + 1) ej oj sj) :
  ∃ more,U.1=ej ++ telP D p sj ++ (cond sj).1 ++ (body (cond sj).2.1).1 ++ more:=by
 rw [h.eq]
 exact ⟨(unrF D cond body p m (jn D oj (cond sj).2.2) (body (cond sj).2.1).2).1,by simp [unrF]⟩
theorem UnTo.on {K:Rk D} {cond:CondF D} {body:BodyF D} (hc:CondWf K cond) (hb:BodyWf K body) {p:Int} {U:List (Tel D.V) × D.St × D.St} {m:Nat} {ej:List (Tel D.V)} {oj sj:D.St} (h:UnTo K cond body p U (m + 1) ej oj sj) :
  UnTo K cond body p U m (ej ++ telP D p sj ++ (cond sj).1 ++ (body (cond sj).2.1).1) (jn D oj (cond sj).2.2) (body (cond sj).2.1).2:=by
 refine ⟨?_,wf_jn h.wo (hc _ h.ws).2,hb _ (hc _ h.ws).1⟩
 rw [h.eq]
 simp [unrF]
end
end Sp
end Go.Proofs.YtiopfihjmkfdmaaGreatDoor
namespace Go.Proofs.YtiopfihjmkfdmaaGreatDoor
open Go.RowKit
set_option maxRecDepth 100000
set_option maxHeartbeats 2000000
def VisAt (w:World) (v:Value) (vis:List (Int × List Int)):Prop :=
 ∃ a cap,v=.slice a vis.length cap∧vis.length≤cap∧(vis ≠ []→∃ g,a=some ⟨g,0,none⟩∧∀ i u,(visCells vis)[i]?=some u→w.cell? ⟨g,i,none⟩=some u)
theorem visAt_of {base:Nat} {w:World} {v:Value} {vis:List (Int × List Int)} (h:w.ownsRow base 80 9 v vis.length (visCells vis)):VisAt w v vis:=by
 rcases h.2 with ⟨rfl,hz⟩ | ⟨g,cap,cur,rfl,_,hh,hnc,_,_,htake⟩
 ·exact ⟨none,0,by rw [hz],by omega,fun hne=>absurd (List.eq_nil_of_length_eq_zero hz) hne⟩
 ·refine ⟨_,cap,rfl,hnc,fun _=>⟨g,rfl,fun i u hu=>cell_of hh i ?_⟩⟩
  have hl:=(List.getElem?_eq_some_iff.1 hu).1
  have h3:cur.toList[i]?=(visCells vis)[i]?:=by
   rw [← htake,List.getElem?_take,if_pos (by rw [← h.1]; exact hl)]
  rw [← Array.getElem?_toList,h3]; exact hu
theorem VisAt.below {w w':World} {v:Value} {vis:List (Int × List Int)} (h:VisAt w v vis) (hb:Below w.heap.size w w'):VisAt w' v vis:=by
 obtain ⟨a,cap,h1,h2,h3⟩:=h
 refine ⟨a,cap,h1,h2,fun hne=>?_⟩
 obtain ⟨g,h4,h5⟩:=h3 hne
 exact ⟨g,h4,fun i u hu=>by rw [hb.cell (p:=⟨g,i,none⟩) (cell_lt (h5 i u hu))]; exact h5 i u hu⟩
theorem visCells_get (vis:List (Int × List Int)) (i:Nat) (x:Int × List Int) (h:vis[i]?=some x) (j:Nat) (u:Value) (hu:(visCell x)[j]?=some u):(visCells vis)[i * 9 + j]?=some u:=by
 induction vis generalizing i with
 | nil=>simp at h
 | cons y ys ih =>
  have e:visCells (y :: ys)=visCell y ++ visCells ys:=by simp [visCells]
  have hl:(visCell y).length=9:=rfl
  rw [e]
  cases i with
  | zero =>
   have hj:=(List.getElem?_eq_some_iff.1 hu).1
   simp at h
   subst h
   rw [List.getElem?_append_left (by omega)]
   simpa using hu
  | succ i =>
   rw [List.getElem?_append_right (by omega),hl]
   have:=ih i (by simpa using h)
   rw [show (i + 1) * 9 + j - 9=i * 9 + j by omega]
   exact this
structure STr (w:World) (a a':Option Addr) (cap cap':Nat) (stop:Int) (vis:List (Int × List Int)) (wr:World):Prop where
 bel:Below w.heap.size w wr
 left:VisAt wr (.slice a vis.length cap) vis
 right:VisAt wr (.slice a' vis.length cap') vis
 blk:wr.heap[w.heap.size]?=some (.cells #[.slice a vis.length cap,.int .i64 stop] 41)
 blk1:wr.heap[w.heap.size + 1]?=some (.cells #[.slice a' vis.length cap',.int .i64 stop] 41)
theorem STr.drew {w:World} {a a':Option Addr} {cap cap':Nat} {stop:Int} {vis:List (Int × List Int)} {wr:World} (h:STr w a a' cap cap' stop vis wr):STr w a a' cap cap' stop vis wr.drew :=
 ⟨h.bel.drew,h.left.below (below_drew1 _),h.right.below (below_drew1 _),h.blk,h.blk1⟩
end Go.Proofs.YtiopfihjmkfdmaaGreatDoor
