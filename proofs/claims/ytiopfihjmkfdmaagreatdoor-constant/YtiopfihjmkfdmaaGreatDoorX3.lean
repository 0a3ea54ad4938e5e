import Derived.Test.YtiopfihjmkfdmaaGreatDoorX2
namespace Go.Proofs.YtiopfihjmkfdmaaGreatDoor
namespace Sp
abbrev Ct:=Int × Int
structure Rst where
 vis:List (Int × List Int)
 st:List Int
 ins:List Int
 fuel:Nat
abbrev Out:=Rst × Option Int
def w16 (n:Int):Int:=IntKind.i16.wrap n
def work (k:Nat) (x y:Int):Option Int :=
 if k=0 then some (w16 (x + y)) else if k=1 then some (w16 (x - y)) else if k=2 then some (w16 (x * y))
 else if y=0 then none else if k=3 then some (w16 (x.tdiv y)) else some (x.tmod y)
def holds (k:Nat) (x y:Int):Bool :=
 if k=0 then decide (x<y) else if k=1 then decide (x≤y) else if k=2 then x == y else if k=3 then x != y
 else if k=4 then decide (y≤x) else decide (y<x)
abbrev Ev:=List Int→Except Int Int
def evBin (k:Nat) (site:Int) (f g:Ev):Ev:=fun s=>match f s with
 | .error e=>.error e
 | .ok x=>(match g s with
  | .error e=>.error e
  | .ok y=>(match work k x y with
   | some z=>.ok z
   | none=>.error site))
def evNeg (f:Ev):Ev:=fun s=>match f s with
 | .error e=>.error e
 | .ok x=>.ok (w16 (-x))
def evCond (k:Nat) (f g:Ev) (s:List Int):Except Int Bool:=match f s with
 | .error e=>.error e
 | .ok x=>(match g s with
  | .error e=>.error e
  | .ok y=>.ok (holds k x y))
def visit (p:Int) (r:Rst):Out:=if r.fuel=0 then (r,some (-2)) else ({ r with vis:=r.vis ++ [(p,r.st)],fuel:=r.fuel - 1 },none)
def andThen (a:Out) (f:Rst→Out):Out:=match a with
 | (r,none)=>f r
 | (r,some s)=>(r,some s)
def steps:List (Int × (Rst→Out))→Rst→Out
 | [],r=>(r,none)
 | (p,f) :: xs,r=>andThen (andThen (visit p r) f) (steps xs)
def loopF (cond:List Int→Except Int Bool) (body:Rst→Out) (p:Int):Nat→Rst→Out
 | 0,r=>(r,some (-2))
 | n + 1,r=>match cond r.st with
  | .error e=>(r,some e)
  | .ok false=>(r,none)
  | .ok true=>andThen (andThen (body r) (visit p)) (loopF cond body p n)
def put (k:Nat) (n:Int) (r:Rst):Rst:={ r with st:=r.st.set k n }
def doAssign (k:Nat) (f:Ev) (r:Rst):Out:=match f r.st with
 | .error e=>(r,some e)
 | .ok n=>(put k n r,none)
def doRead (k:Nat) (r:Rst):Out:=match r.ins with
 | []=>(put k 0 r,none)
 | n :: rest=>({ put k n r with ins:=rest },none)
def doAssert (site:Int) (c:List Int→Except Int Bool) (r:Rst):Out:=match c r.st with
 | .error e=>(r,some e)
 | .ok true=>(r,none)
 | .ok false=>(r,some site)
def doIf (c:List Int→Except Int Bool) (f g:Rst→Out) (r:Rst):Out:=match c r.st with
 | .error e=>(r,some e)
 | .ok true=>f r
 | .ok false=>g r
def doWhile (c:List Int→Except Int Bool) (f:Rst→Out) (p:Int) (r:Rst):Out:=loopF c f p (r.fuel + 1) r
def ptUp (ct:Ct):Ct:=(RowKit.wrap64 (ct.1 + 1),ct.2)
def siteUp (ct:Ct):Ct:=(ct.1,RowKit.wrap64 (ct.2 + 1))
def number {α:Type}:List (Ct→α × Ct)→Ct→List (Int × α) × Ct
 | [],ct=>([],ct)
 | x :: xs,ct=>((ct.1,(x ct).1) :: (number xs (x ct).2).1,(number xs (x ct).2).2)
def Rn:Alg where
 S:=Ct→Ev × Ct
 num n:=fun ct=>(fun _=>.ok (n:Int),ct)
 name k:=fun ct=>(fun s=>.ok (s.getD k 0),ct)
 neg x:=fun ct=>(evNeg (x ct).1,(x ct).2)
 bin k x y:=fun ct=>if 3≤k then (evBin k (x ct).2.2 (x ct).1 (y (siteUp (x ct).2)).1,(y (siteUp (x ct).2)).2) else (evBin k 0 (x ct).1 (y (x ct).2).1,(y (x ct).2).2)
 T:=Ct→(Rst→Out) × Ct
 assign k x:=fun ct=>(doAssign k (x (ptUp ct)).1,(x (ptUp ct)).2)
 read k:=fun ct=>(doRead k,ptUp ct)
 assert k x y:=fun ct =>
  let a:=x (siteUp (ptUp ct))
  let b:=y a.2
  (doAssert ct.2 (evCond k a.1 b.1),b.2)
 ite k x y xs ys:=fun ct =>
  let a:=x (ptUp ct)
  let b:=y a.2
  let c:=number xs b.2
  let d:=match ys with
   | some ys=>number ys c.2
   | none=>([],c.2)
  (doIf (evCond k a.1 b.1) (steps c.1) (steps d.1),d.2)
 loop k x y xs:=fun ct =>
  let a:=x (ptUp ct)
  let b:=y a.2
  let c:=number xs b.2
  (doWhile (evCond k a.1 b.1) (steps c.1) ct.1,c.2)
def runOf (xs:List Rn.T) (ins:List Int) (fuel:Nat):List (Int × List Int) × Int :=
 let c:=number xs (0,0)
 match andThen (steps c.1 { vis:=[],st:=List.replicate 8 0,ins:=ins,fuel:=fuel }) (visit c.2.1) with
 | (r,none)=>(r.vis,-1)
 | (r,some s)=>(r.vis,s)
def run (src:Bs) (ins:List Int) (fuel:Int):Except (Nat × Nat) (List (Int × List Int) × Int):=match parse Rn src with
 | .error e=>.error e
 | .ok xs=>if fuel<0∨500<fuel then .error (4,0) else .ok (runOf xs ins fuel.toNat)
end Sp
end Go.Proofs.YtiopfihjmkfdmaaGreatDoor
namespace Go.Proofs.YtiopfihjmkfdmaaGreatDoor
namespace Sp
inductive Sm where
 | num (n:Nat)
 | name (k:Nat)
 | neg (x:Sm)
 | bin (k:Nat) (x y:Sm)
inductive Bl where
 | nil
 | assign (k:Nat) (x:Sm) (rest:Bl)
 | read (k:Nat) (rest:Bl)
 | assert (k:Nat) (x y:Sm) (rest:Bl)
 | ite (k:Nat) (x y:Sm) (xs:Bl) (els:Bool) (ys:Bl) (rest:Bl)
 | loop (k:Nat) (x y:Sm) (xs:Bl) (rest:Bl)
def joinB (fs:List (Bl→Bl)):Bl:=fs.foldr (fun f b=>f b) .nil
def Tr:Alg where
 S:=Sm
 num:=.num
 name:=.name
 neg:=.neg
 bin:=.bin
 T:=Bl→Bl
 assign k x:=.assign k x
 read k:=.read k
 assert k x y:=.assert k x y
 ite k x y xs ys:=.ite k x y (joinB xs) ys.isSome (joinB (ys.getD []))
 loop k x y xs:=.loop k x y (joinB xs)
def foldS (A:Alg):Sm→A.S
 | .num n=>A.num n
 | .name k=>A.name k
 | .neg x=>A.neg (foldS A x)
 | .bin k x y=>A.bin k (foldS A x) (foldS A y)
def foldB (A:Alg):Bl→List A.T
 | .nil=>[]
 | .assign k x rest=>A.assign k (foldS A x) :: foldB A rest
 | .read k rest=>A.read k :: foldB A rest
 | .assert k x y rest=>A.assert k (foldS A x) (foldS A y) :: foldB A rest
 | .ite k x y xs els ys rest=>A.ite k (foldS A x) (foldS A y) (foldB A xs) (if els then some (foldB A ys) else none) :: foldB A rest
 | .loop k x y xs rest=>A.loop k (foldS A x) (foldS A y) (foldB A xs) :: foldB A rest
def Both (A:Alg) (p:(Bl→Bl) × A.T):Prop:=∀ rest,foldB A (p.1 rest)=p.2 :: foldB A rest
abbrev BothT (A:Alg):={ p:(Bl→Bl) × A.T // Both A p }
theorem both_join (A:Alg):∀ (xs:List (BothT A)),foldB A (joinB (xs.map fun x=>x.1.1))=xs.map fun x=>x.1.2
 | []=>rfl
 | x :: xs=>by
  show foldB A (x.1.1 (joinB (xs.map fun x=>x.1.1)))=_
  rw [x.2,both_join A xs]; rfl
def TwoA (A:Alg):Alg where
 S:=Sm
 num:=.num
 name:=.name
 neg:=.neg
 bin:=.bin
 T:=BothT A
 assign k x:=⟨(.assign k x,A.assign k (foldS A x)),fun _=>rfl⟩
 read k:=⟨(.read k,A.read k),fun _=>rfl⟩
 assert k x y:=⟨(.assert k x y,A.assert k (foldS A x) (foldS A y)),fun _=>rfl⟩
 ite k x y xs ys:=⟨(.ite k x y (joinB (xs.map fun x=>x.1.1)) ys.isSome (joinB ((ys.getD []).map fun x=>x.1.1)),A.ite k (foldS A x) (foldS A y) (xs.map fun x=>x.1.2) (ys.map fun l=>l.map fun x=>x.1.2)),fun rest=>by
  show A.ite k (foldS A x) (foldS A y) (foldB A (joinB (xs.map fun x=>x.1.1))) (if ys.isSome then some (foldB A (joinB ((ys.getD []).map fun x=>x.1.1))) else none) :: foldB A rest=_
  rw [both_join,both_join]
  cases ys <;> rfl⟩
 loop k x y xs:=⟨(.loop k x y (joinB (xs.map fun x=>x.1.1)),A.loop k (foldS A x) (foldS A y) (xs.map fun x=>x.1.2)),fun rest=>by
  show A.loop k (foldS A x) (foldS A y) (foldB A (joinB (xs.map fun x=>x.1.1))) :: foldB A rest=_
  rw [both_join]⟩
def twoTr (A:Alg):Hom (TwoA A) Tr where
 s:=id
 t x:=x.1.1
 num _:=rfl
 name _:=rfl
 neg _:=rfl
 bin _ _ _:=rfl
 assign _ _:=rfl
 read _:=rfl
 assert _ _ _:=rfl
 ite k x y xs ys:=by cases ys <;> rfl
 loop _ _ _ _:=rfl
def twoA (A:Alg):Hom (TwoA A) A where
 s:=foldS A
 t x:=x.1.2
 num _:=rfl
 name _:=rfl
 neg _:=rfl
 bin _ _ _:=rfl
 assign _ _:=rfl
 read _:=rfl
 assert _ _ _:=rfl
 ite _ _ _ _ _:=rfl
 loop _ _ _ _:=rfl
def tree (src:Bs):Except (Nat × Nat) Bl:=match parse Tr src with
 | .ok fs=>.ok (joinB fs)
 | .error e=>.error e
theorem parse_tree (A:Alg) (src:Bs):parse A src=(match tree src with
  | .ok b=>.ok (foldB A b)
  | .error e=>.error e):=by
 unfold tree
 rw [parse_hom (twoA A),parse_hom (twoTr A)]
 cases parse (TwoA A) src with
 | error e=>rfl
 | ok xs =>
  exact congrArg Except.ok (both_join A xs).symm
end Sp
end Go.Proofs.YtiopfihjmkfdmaaGreatDoor
namespace Go.Proofs.YtiopfihjmkfdmaaGreatDoor
namespace Sp
theorem skip_nb {c:UInt8} (r:Bs) (h:isBlank c=false):skip (c :: r)=c :: r:=by simp [skip,h]
theorem skip_32 (r:Bs):skip (32 :: r)=skip r:=by simp [skip,isBlank]
theorem skip_10 (r:Bs):skip (10 :: r)=skip r:=by simp [skip,isBlank]
theorem skip_len (r:Bs):(skip r).length≤r.length:=by
 unfold skip
 exact (List.dropWhile_sublist _).length_le
theorem skip_pad (d:Nat) (r:Bs):skip (pad d ++ r)=skip r:=by
 unfold pad
 generalize 2 * d=n
 induction n with
 | zero=>rfl
 | succ n ih=>rw [List.replicate_succ,List.cons_append,skip_32]; exact ih
theorem takeWhile_stop {p:UInt8→Bool} {t r:Bs} (ht:∀ c ∈ t,p c=true) (hr:∀ c,r.head?=some c→p c=false):(t ++ r).takeWhile p=t:=by
 rw [List.takeWhile_append_of_pos ht]
 cases r with
 | nil=>simp
 | cons c r=>simp [hr c rfl]
theorem tok_word {t r:Bs} (h0:t ≠ []) (ht:∀ c ∈ t,isLet c=true) (hr:∀ c,r.head?=some c→isLet c=false) :
  tok (t ++ r)=t∧next (t ++ r)=skip r∧tokKind (t ++ r)=2:=by
 cases t with
 | nil=>exact absurd rfl h0
 | cons c t =>
  have hc:=ht c (by simp)
  have hl:tokLen (c :: t ++ r)=(c :: t).length:=by
   have:=takeWhile_stop ht hr
   simp only [List.cons_append] at this ⊢
   simp only [tokLen,hc,if_true,headRun,this]
  refine ⟨?_,?_,?_⟩
  ·unfold tok; rw [hl]; simp
  ·unfold next; rw [hl]; simp
  ·simp [tokKind,hc]
theorem let_not_dig {c:UInt8} (h:isDig c=true):isLet c=false:=by
 simp only [isDig,isLet,Bool.and_eq_true,decide_eq_true_eq,Bool.and_eq_false_iff,decide_eq_false_iff_not] at *
 omega
theorem tok_digits {t r:Bs} (h0:t ≠ []) (ht:∀ c ∈ t,isDig c=true) (hr:∀ c,r.head?=some c→isDig c=false) :
  tok (t ++ r)=t∧next (t ++ r)=skip r∧tokKind (t ++ r)=3:=by
 cases t with
 | nil=>exact absurd rfl h0
 | cons c t =>
  have hc:=ht c (by simp)
  have hn:=let_not_dig hc
  have hl:tokLen (c :: t ++ r)=(c :: t).length:=by
   have:=takeWhile_stop ht hr
   simp only [List.cons_append] at this ⊢
   simp only [tokLen,hc,hn,if_true,headRun,this]
   simp
  refine ⟨?_,?_,?_⟩
  ·unfold tok; rw [hl]; simp
  ·unfold next; rw [hl]; simp
  ·simp [tokKind,hc,hn]
theorem ones_plain:∀ c ∈ ones,isLet c=false∧isDig c=false:=by decide
theorem twos_plain:∀ c ∈ twos,isLet c=false∧isDig c=false:=by decide
theorem tok_one {c:UInt8} {r:Bs} (hc:c ∈ ones) (h2:c ∈ twos→r.head? ≠ some 61):tok (c :: r)=[c]∧next (c :: r)=skip r∧tokKind (c :: r)=4:=by
 obtain ⟨h3,h4⟩:=ones_plain c hc
 have hs:signLen (c :: r)=1:=by
  show (if r.head?=some 61∧c ∈ twos then 2 else if c ∈ ones then 1 else 0)=1
  rw [if_neg (fun h=>h2 h.2 h.1),if_pos hc]
 have hl:tokLen (c :: r)=1:=by simp [tokLen,h3,h4,hs]
 refine ⟨?_,?_,?_⟩
 ·unfold tok; rw [hl]; rfl
 ·unfold next; rw [hl]; rfl
 ·simp [tokKind,h3,h4,hs]
theorem tok_two {c:UInt8} {r:Bs} (hc:c ∈ twos):tok (c :: 61 :: r)=[c,61]∧next (c :: 61 :: r)=skip r∧tokKind (c :: 61 :: r)=4:=by
 obtain ⟨h3,h4⟩:=twos_plain c hc
 have hs:signLen (c :: 61 :: r)=2:=by
  show (if (61 :: r).head?=some 61∧c ∈ twos then 2 else if c ∈ ones then 1 else 0)=2
  rw [if_pos ⟨rfl,hc⟩]
 have hl:tokLen (c :: 61 :: r)=2:=by simp [tokLen,h3,h4,hs]
 refine ⟨?_,?_,?_⟩
 ·unfold tok; rw [hl]; rfl
 ·unfold next; rw [hl]; rfl
 ·simp [tokKind,h3,h4,hs]
def Brk (r:Bs):Prop:=∃ c r',r=c :: r'∧(c=32∨c=41∨c=59)
theorem Brk.let {r:Bs} (h:Brk r):∀ c,r.head?=some c→isLet c=false:=by
 obtain ⟨c,r',rfl,h⟩:=h
 intro d hd
 cases hd
 rcases h with rfl | rfl | rfl <;> decide
theorem Brk.dig {r:Bs} (h:Brk r):∀ c,r.head?=some c→isDig c=false:=by
 obtain ⟨c,r',rfl,h⟩:=h
 intro d hd
 cases hd
 rcases h with rfl | rfl | rfl <;> decide
theorem brk_32 (r:Bs):Brk (32 :: r):=⟨32,r,rfl,.inl rfl⟩
theorem brk_59 (r:Bs):Brk (59 :: r):=⟨59,r,rfl,.inr (.inr rfl)⟩
def NB (t:Bs):Prop:=∃ c r',t=c :: r'∧isBlank c=false
theorem NB.skip {t:Bs} (h:NB t) (r:Bs):skip (t ++ r)=t ++ r:=by
 obtain ⟨c,r',rfl,h⟩:=h
 exact skip_nb _ h
theorem NB.app {t:Bs} (h:NB t) (r:Bs):NB (t ++ r):=by
 obtain ⟨c,r',rfl,h⟩:=h
 exact ⟨c,r' ++ r,rfl,h⟩
theorem letter_let {k:Nat} (hk:k<8):∀ c ∈ letter k,isLet c=true:=by
 match k,hk with
 | 0,_=>decide
 | 1,_=>decide
 | 2,_=>decide
 | 3,_=>decide
 | 4,_=>decide
 | 5,_=>decide
 | 6,_=>decide
 | 7,_=>decide
theorem letter_nb {k:Nat} (hk:k<8):NB (letter k):=by
 refine ⟨UInt8.ofNat (97 + k),[],rfl,?_⟩
 match k,hk with
 | 0,_=>decide
 | 1,_=>decide
 | 2,_=>decide
 | 3,_=>decide
 | 4,_=>decide
 | 5,_=>decide
 | 6,_=>decide
 | 7,_=>decide
theorem pName_letter {k:Nat} (hk:k<8) {r:Bs} (hr:∀ c,r.head?=some c→isLet c=false):pName (letter k ++ r)=.ok (k,skip r):=by
 obtain ⟨h1,h2,h3⟩:=tok_word (t:=letter k) (by simp [letter]) (letter_let hk) hr
 have hn:nameVal (letter k ++ r)=some k:=by
  unfold nameVal
  rw [h1,h3]
  simp [letter]
  omega
 unfold pName
 rw [hn,h2]
theorem pName_lt8 {l:Bs} {k:Nat} {l':Bs} (h:pName l=.ok (k,l')):k<8:=by
 unfold pName at h
 split at h
 ·next k' hk =>
  cases h
  unfold nameVal at hk
  split at hk
  ·split at hk
   ·cases hk; omega
   ·cases hk
  ·cases hk
 ·cases h
theorem ofNat_dig {d:Nat} (h:d<10):(UInt8.ofNat (48 + d)).toNat=48 + d:=by
 simp; omega
theorem dig_dig {d:Nat} (h:d<10):isDig (UInt8.ofNat (48 + d))=true:=by
 unfold isDig; rw [ofNat_dig h]; simp; omega
theorem decimal_snoc (a:Bs) (c:UInt8):decimal (a ++ [c])=decimal a * 10 + (c.toNat - 48):=by simp [decimal]
theorem digitsF_spec:∀ f n,n<10 ^ f→0<f→(digitsF f n ≠ []∧(∀ c ∈ digitsF f n,isDig c=true)∧decimal (digitsF f n)=n∧(1≤n→(digitsF f n).head? ≠ some 48)∧(n<10→(digitsF f n).length=1)):=by
 intro f
 induction f with
 | zero=>intro n _ h; omega
 | succ f ih =>
  intro n hn _
  unfold digitsF
  by_cases h:n<10
  ·rw [if_pos h]
   refine ⟨by simp,?_,?_,?_,fun _=>rfl⟩
   ·intro c hc; rw [List.mem_singleton.1 hc]; exact dig_dig h
   ·simp only [decimal,List.foldl]; rw [ofNat_dig h]; omega
   ·intro h1 h2
    simp only [List.head?,Option.some.injEq] at h2
    have:=congrArg UInt8.toNat h2
    rw [ofNat_dig h] at this
    simp at this
    omega
  ·rw [if_neg h]
   have hf:0<f:=by
    rcases Nat.eq_zero_or_pos f with h0 | h0
    ·subst h0; simp at hn; omega
    ·exact h0
   have hq:n / 10<10 ^ f:=by
    rw [Nat.div_lt_iff_lt_mul (by omega)]
    rw [Nat.pow_succ] at hn
    exact hn
   obtain ⟨i1,i2,i3,i4,_⟩:=ih (n / 10) hq hf
   refine ⟨by simp,?_,?_,?_,fun k=>absurd k h⟩
   ·intro c hc
    simp only [List.mem_append,List.mem_singleton] at hc
    rcases hc with hc | hc
    ·exact i2 c hc
    ·rw [hc]; exact dig_dig (by omega)
   ·rw [decimal_snoc,i3,ofNat_dig (by omega)]; omega
   ·intro _
    rw [List.head?_append]
    have:=i4 (by omega)
    cases hd:(digitsF f (n / 10)).head? with
    | none=>simp at hd; exact absurd hd i1
    | some c=>rw [hd] at this; simpa using this
theorem digits_spec {n:Nat} (hn:n≤32767):digits n ≠ []∧(∀ c ∈ digits n,isDig c=true)∧numVal (digits n)=some n:=by
 obtain ⟨h1, h2, h3, h4, h5⟩ := digitsF_spec 20 n (by have : (32767 : Nat) < 10 ^ 20 := by decide
                                                      omega) (by omega)
 refine ⟨h1,h2,?_⟩
 unfold numVal digits
 rw [if_neg,h3,if_pos hn]
 rintro ⟨a,b⟩
 by_cases h:n<10
 ·have:=h5 h; omega
 ·exact h4 (by omega) b
theorem digits_nb {n:Nat} (hn:n≤32767):NB (digits n):=by
 obtain ⟨h1,h2,_⟩:=digits_spec hn
 cases h:digits n with
 | nil=>exact absurd h h1
 | cons c r =>
  refine ⟨c,r,rfl,?_⟩
  have:=h2 c (by rw [h]; simp)
  simp only [isDig,isBlank,Bool.and_eq_true,decide_eq_true_eq] at *
  simp only [Bool.or_eq_false_iff,beq_eq_false_iff_ne,ne_eq]
  constructor <;> (intro e; subst e; simp at this)
theorem numVal_le {t:Bs} {v:Nat} (h:numVal t=some v):v≤32767:=by
 unfold numVal at h
 split at h
 ·cases h
 ·split at h
  ·cases h; omega
  ·cases h
end Sp
end Go.Proofs.YtiopfihjmkfdmaaGreatDoor
namespace Go.Proofs.YtiopfihjmkfdmaaGreatDoor
namespace Sp
def RU (x:Nat × Bs) (t:Bs) (o:Nat):Prop:=∀ o' n r,o'≤o→t.length≤n→Brk r→pUnary Pr n o' (t ++ r)=.ok (x,skip r)
def RP (x:Nat × Bs) (t:Bs) (o:Nat):Prop:=∀ o' n r,o'≤o→t.length≤n→Brk r→∃ m,(skip r).length<m∧pProd Pr (pUnary Pr n o') (t ++ r)=pChain Pr 1 (pUnary Pr n o') m x (skip r)
def No1 (r:Bs):Prop:=∀ k,opOf (tok (skip r))=some k→opLevel k ≠ 1
def RS (x:Nat × Bs) (t:Bs) (o:Nat):Prop:=∀ o' n r,o'≤o→t.length≤n→Brk r→No1 r→∃ m,(skip r).length<m∧pSum Pr (pUnary Pr n o') (t ++ r)=pChain Pr 0 (pProd Pr (pUnary Pr n o')) m x (skip r)
theorem pChain_succ (A:Alg) (lv:Nat) (part:Bs→R A.S) (m:Nat) (x:A.S) (l:Bs):pChain A lv part (m + 1) x l=(match opOf (tok l) with
  | some k=>if opLevel k=lv then (match part (next l) with
    | .ok (y,l')=>pChain A lv part m (A.bin k x y) l'
    | .error e=>.error e) else .ok (x,l)
  | none=>.ok (x,l)):=rfl
theorem stop1 {u:Bs→R Pr.S} {m:Nat} {x:Nat × Bs} {r:Bs} (h:No1 r):pChain Pr 1 u m x (skip r)=.ok (x,skip r):=by
 cases m with
 | zero=>rfl
 | succ m =>
  rw [pChain_succ Pr 1 u m x (skip r)]
  split
  ·next k hk=>rw [if_neg (h k hk)]
  ·rfl
theorem stop0 {u:Bs→R Pr.S} {m:Nat} {x:Nat × Bs} {r:Bs} (h:opOf (tok r)=none):pChain Pr 0 u m x r=.ok (x,r):=by
 cases m with
 | zero=>rfl
 | succ m =>
  rw [pChain_succ Pr 0 u m x r,h]
theorem RU.rp {x:Nat × Bs} {t:Bs} {o:Nat} (h:RU x t o):RP x t o:=by
 intro o' n r ho hn hr
 refine ⟨(skip r).length + 1,by omega,?_⟩
 unfold pProd pWith
 rw [h o' n r ho hn hr]
theorem RP.rs {x:Nat × Bs} {t:Bs} {o:Nat} (h:RP x t o):RS x t o:=by
 intro o' n r ho hn hr h1
 obtain ⟨m,_,he⟩:=h o' n r ho hn hr
 rw [stop1 h1] at he
 refine ⟨(skip r).length + 1,by omega,?_⟩
 unfold pSum pWith
 rw [he]
theorem RU.mono {x:Nat × Bs} {t:Bs} {o o1:Nat} (h:RU x t o1) (ho:o≤o1):RU x t o:=fun o' n r k=>h o' n r (by omega)
theorem RP.mono {x:Nat × Bs} {t:Bs} {o o1:Nat} (h:RP x t o1) (ho:o≤o1):RP x t o:=fun o' n r k=>h o' n r (by omega)
theorem RS.mono {x:Nat × Bs} {t:Bs} {o o1:Nat} (h:RS x t o1) (ho:o≤o1):RS x t o:=fun o' n r k=>h o' n r (by omega)
theorem sign_tok {k:Nat} (hk:k<5) (z:Bs):tok (opSign k ++ 32 :: z)=opSign k∧next (opSign k ++ 32 :: z)=skip z∧skip (32 :: (opSign k ++ 32 :: z))=opSign k ++ 32 :: z∧opOf (opSign k)=some k∧(opSign k).length=1:=by
 match k,hk with
 | 0,_=>exact ⟨(tok_one (c:=43) (by decide) (fun h=>absurd h (by decide))).1,(tok_one (c:=43) (by decide) (fun h=>absurd h (by decide))).2.1.trans (skip_32 z),(skip_32 _).trans (skip_nb _ (by decide)),rfl,rfl⟩
 | 1,_=>exact ⟨(tok_one (c:=45) (by decide) (fun h=>absurd h (by decide))).1,(tok_one (c:=45) (by decide) (fun h=>absurd h (by decide))).2.1.trans (skip_32 z),(skip_32 _).trans (skip_nb _ (by decide)),rfl,rfl⟩
 | 2,_=>exact ⟨(tok_one (c:=42) (by decide) (fun h=>absurd h (by decide))).1,(tok_one (c:=42) (by decide) (fun h=>absurd h (by decide))).2.1.trans (skip_32 z),(skip_32 _).trans (skip_nb _ (by decide)),rfl,rfl⟩
 | 3,_=>exact ⟨(tok_one (c:=47) (by decide) (fun h=>absurd h (by decide))).1,(tok_one (c:=47) (by decide) (fun h=>absurd h (by decide))).2.1.trans (skip_32 z),(skip_32 _).trans (skip_nb _ (by decide)),rfl,rfl⟩
 | 4,_=>exact ⟨(tok_one (c:=37) (by decide) (fun h=>absurd h (by decide))).1,(tok_one (c:=37) (by decide) (fun h=>absurd h (by decide))).2.1.trans (skip_32 z),(skip_32 _).trans (skip_nb _ (by decide)),rfl,rfl⟩
theorem RP.bin {x y:Nat × Bs} {tx ty:Bs} {o k:Nat} (hk:k<5) (hl:opLevel k=1) (hx:RP x tx o) (hy:RU y ty o) (ny:NB ty) :
  RP (Pr.bin k x y) (tx ++ [32] ++ opSign k ++ [32] ++ ty) o:=by
 intro o' n r ho hn hr
 obtain ⟨s1,s2,s3,s4,s5⟩:=sign_tok hk (ty ++ r)
 rw [show (tx ++ [32] ++ opSign k ++ [32] ++ ty) ++ r=tx ++ (32 :: (opSign k ++ 32 :: (ty ++ r))) by simp]
 simp only [List.length_append,List.length_cons,List.length_nil] at hn
 obtain ⟨m,hm,he⟩:=hx o' n _ ho (by omega) (brk_32 _)
 rw [he]
 rw [s3] at hm ⊢
 obtain ⟨m',rfl⟩:∃ m',m=m' + 1:=⟨m - 1,by omega⟩
 refine ⟨m',?_,?_⟩
 ·simp only [List.length_append,List.length_cons] at hm
  have:=skip_len r
  omega
 ·rw [pChain_succ Pr 1 _ m' x _,s1,s4]
  simp only [hl,if_true]
  rw [s2,ny.skip,hy o' n r ho (by omega) hr]
theorem RS.bin {x y:Nat × Bs} {tx ty:Bs} {o k:Nat} (hk:k<5) (hl:opLevel k=0) (hx:RS x tx o) (hy:RP y ty o) (ny:NB ty) :
  RS (Pr.bin k x y) (tx ++ [32] ++ opSign k ++ [32] ++ ty) o:=by
 intro o' n r ho hn hr h1
 obtain ⟨s1,s2,s3,s4,s5⟩:=sign_tok hk (ty ++ r)
 rw [show (tx ++ [32] ++ opSign k ++ [32] ++ ty) ++ r=tx ++ (32 :: (opSign k ++ 32 :: (ty ++ r))) by simp]
 simp only [List.length_append,List.length_cons,List.length_nil] at hn
 obtain ⟨m,hm,he⟩:=hx o' n (32 :: (opSign k ++ 32 :: (ty ++ r))) ho (by omega) (brk_32 _) (by
  intro k' hk'
  rw [s3,s1,s4] at hk'
  cases hk'
  omega)
 rw [he]
 rw [s3] at hm ⊢
 obtain ⟨m',rfl⟩:∃ m',m=m' + 1:=⟨m - 1,by omega⟩
 refine ⟨m',?_,?_⟩
 ·simp only [List.length_append,List.length_cons] at hm
  have:=skip_len r
  omega
 ·obtain ⟨m2,_,he2⟩:=hy o' n r ho (by omega) hr
  rw [stop1 h1] at he2
  rw [pChain_succ Pr 0 _ m' x _,s1,s4]
  simp only [hl,if_true]
  rw [s2,ny.skip,he2]
theorem RU.neg {x:Nat × Bs} {t:Bs} {o:Nat} (y:Nat × Bs) (hy:y=Pr.neg x) (h:RU x t (o + 1)) (nt:NB t) (ho:o<12):RU y ([45] ++ t) o:=by
 intro o' n r ho' hn hr
 simp only [List.length_append,List.length_cons,List.length_nil] at hn
 obtain ⟨n',rfl⟩:∃ n',n=n' + 1:=⟨n - 1,by omega⟩
 rw [show ([45] ++ t) ++ r=45 :: (t ++ r) by simp]
 obtain ⟨q1,q2,q3⟩:=tok_one (c:=45) (r:=t ++ r) (by decide) (fun h=>absurd h (by decide))
 have he:=h (o' + 1) n' r (by omega) (by omega) hr
 unfold pUnary
 rw [if_neg (by rw [q3]; decide),if_neg (by rw [q3]; decide),if_pos q1]
 unfold enter
 rw [if_pos q1,if_neg (by omega),q2,nt.skip]
 simp only
 rw [he,hy]
structure G (o:Nat) (x:Nat × Bs):Prop where
 nb:NB x.2
 le:x.1≤2
 u:x.1=2→RU x x.2 o
 p:1≤x.1→RP x x.2 o
 s:RS x x.2 o
structure PV (o:Nat) (x:Nat × Bs):Prop where
 g:G o x
 p:RP x (part x 1) o
structure UV (o:Nat) (x:Nat × Bs):Prop where
 g:G o x
 p:RP x (part x 1) o
 u:RU x (part x 2) o
theorem part_nb {x:Nat × Bs} (h:NB x.2) (lv:Nat):NB (part x lv):=by
 unfold part; split
 ·exact ⟨40,x.2 ++ [41],by simp,by decide⟩
 ·exact h
theorem part_ge {x:Nat × Bs} {lv:Nat} (h:lv≤x.1):part x lv=x.2:=by unfold part; rw [if_neg (by omega)]
theorem UV.leaf {o:Nat} {x:Nat × Bs} (h2:x.1=2) (hn:NB x.2) (hu:RU x x.2 o):UV o x :=
 ⟨⟨hn,by omega,fun _=>hu,fun _=>hu.rp,hu.rp.rs⟩,by rw [part_ge (by omega)]; exact hu.rp,by rw [part_ge (by omega)]; exact hu⟩
theorem UV.neg {o:Nat} {x:Nat × Bs} (h:UV (o + 1) x) (ho:o<12):UV o (Pr.neg x) :=
 UV.leaf rfl ⟨45,part x 2,rfl,by decide⟩ (RU.neg _ rfl h.u (part_nb h.g.nb 2) ho)
theorem UV.num {o n:Nat} (hn:n≤32767):UV o (Pr.num n):=by
 refine UV.leaf rfl (digits_nb hn) ?_
 intro o' m r _ hm hr
 obtain ⟨h1,h2,h3⟩:=digits_spec hn
 obtain ⟨q1,q2,q3⟩:=tok_digits h1 h2 hr.dig
 have hm':(digits n).length≤m:=hm
 have:0<(digits n).length:=List.length_pos_iff.2 h1
 obtain ⟨m',rfl⟩:∃ m',m=m' + 1:=⟨m - 1,by omega⟩
 show pUnary Pr (m' + 1) o' (digits n ++ r)=_
 unfold pUnary
 rw [if_pos q3,q1,h3,q2]
theorem UV.name {o k:Nat} (hk:k<8):UV o (Pr.name k):=by
 refine UV.leaf rfl (letter_nb hk) ?_
 intro o' m r _ hm hr
 obtain ⟨q1,q2,q3⟩:=tok_word (t:=letter k) (r:=r) (by simp [letter]) (letter_let hk) hr.let
 have hm':(letter k).length≤m:=hm
 simp [letter] at hm'
 obtain ⟨m',rfl⟩:∃ m',m=m' + 1:=⟨m - 1,by omega⟩
 show pUnary Pr (m' + 1) o' (letter k ++ r)=_
 unfold pUnary
 rw [if_neg (by rw [q3]; decide),if_pos q3,pName_letter hk hr.let]
theorem PV.bin {o k:Nat} {x y:Nat × Bs} (hk:k<5) (hl:opLevel k=1) (hx:PV o x) (hy:UV o y):PV o (Pr.bin k x y):=by
 have e:Pr.bin k x y=(1,part x 1 ++ [32] ++ opSign k ++ [32] ++ part y 2):=by simp only [Pr,hl]
 have hp:=RP.bin hk hl hx.p hy.u (part_nb hy.g.nb 2)
 rw [e] at hp ⊢
 have hn:NB (part x 1 ++ [32] ++ opSign k ++ [32] ++ part y 2):=((((part_nb hx.g.nb 1).app _).app _).app _).app _
 have e2:part (1,part x 1 ++ [32] ++ opSign k ++ [32] ++ part y 2) 1=part x 1 ++ [32] ++ opSign k ++ [32] ++ part y 2:=part_ge (Nat.le_refl 1)
 exact ⟨⟨hn,by simp,fun h=>by simp at h,fun _=>hp,hp.rs⟩,by rw [e2]; exact hp⟩
theorem G.bin {o k:Nat} {x y:Nat × Bs} (hk:k<5) (hl:opLevel k=0) (hx:G o x) (hy:PV o y):G o (Pr.bin k x y):=by
 have e:Pr.bin k x y=(0,x.2 ++ [32] ++ opSign k ++ [32] ++ part y 1):=by simp only [Pr,hl]; rw [part_ge (Nat.zero_le _)]
 have hp:=RS.bin hk hl hx.s hy.p (part_nb hy.g.nb 1)
 rw [e] at hp ⊢
 have hn:NB (x.2 ++ [32] ++ opSign k ++ [32] ++ part y 1):=(((hx.nb.app _).app _).app _).app _
 exact ⟨hn,by simp,fun h=>by simp at h,fun h=>by simp at h,hp⟩
theorem opOf_lt {t:Bs} {k:Nat} (h:opOf t=some k):k<5:=by
 unfold opOf at h
 repeat (split at h; (cases h; decide))
 cases h
theorem enter_ok {t:Bs} {o:Nat} {l l':Bs} (h:enter t o l=.ok l') (ho:o≤12):o<12:=by
 unfold enter at h
 split at h
 ·split at h
  ·cases h
  ·omega
 ·cases h
theorem G.read {o:Nat} {x:Nat × Bs} (h:G o x) {o':Nat} (ho:o'≤o) {r:Bs} (hr:Brk r) (hn:opOf (tok (skip r))=none):pS Pr o' (x.2 ++ r)=.ok (x,skip r):=by
 unfold pS
 obtain ⟨m,_,he⟩:=h.s o' ((x.2 ++ r).length + 1) r ho (by simp; omega) hr (by intro k hk; rw [hn] at hk; cases hk)
 rw [he,stop0 hn]
end Sp
end Go.Proofs.YtiopfihjmkfdmaaGreatDoor
namespace Go.Proofs.YtiopfihjmkfdmaaGreatDoor
namespace Sp
theorem rel_tok {k:Nat} (hk:k<6) (z:Bs):tok (relSign k ++ 32 :: z)=relSign k∧next (relSign k ++ 32 :: z)=skip z∧skip (32 :: (relSign k ++ 32 :: z))=relSign k ++ 32 :: z∧relOf (relSign k)=some k∧opOf (relSign k)=none:=by
 match k,hk with
 | 0,_=>exact ⟨(tok_one (c:=60) (by decide) (fun _ h=>by cases h)).1,(tok_one (c:=60) (by decide) (fun _ h=>by cases h)).2.1.trans (skip_32 z),(skip_32 _).trans (skip_nb _ (by decide)),rfl,rfl⟩
 | 1,_=>exact ⟨(tok_two (c:=60) (by decide)).1,(tok_two (c:=60) (by decide)).2.1.trans (skip_32 z),(skip_32 _).trans (skip_nb _ (by decide)),rfl,rfl⟩
 | 2,_=>exact ⟨(tok_two (c:=61) (by decide)).1,(tok_two (c:=61) (by decide)).2.1.trans (skip_32 z),(skip_32 _).trans (skip_nb _ (by decide)),rfl,rfl⟩
 | 3,_=>exact ⟨(tok_two (c:=33) (by decide)).1,(tok_two (c:=33) (by decide)).2.1.trans (skip_32 z),(skip_32 _).trans (skip_nb _ (by decide)),rfl,rfl⟩
 | 4,_=>exact ⟨(tok_two (c:=62) (by decide)).1,(tok_two (c:=62) (by decide)).2.1.trans (skip_32 z),(skip_32 _).trans (skip_nb _ (by decide)),rfl,rfl⟩
 | 5,_=>exact ⟨(tok_one (c:=62) (by decide) (fun _ h=>by cases h)).1,(tok_one (c:=62) (by decide) (fun _ h=>by cases h)).2.1.trans (skip_32 z),(skip_32 _).trans (skip_nb _ (by decide)),rfl,rfl⟩
theorem relOf_lt {t:Bs} {k:Nat} (h:relOf t=some k):k<6:=by
 unfold relOf at h
 repeat (split at h; (cases h; decide))
 cases h
theorem cond_read {o k:Nat} {x y:Nat × Bs} (hk:k<6) (hx:G o x) (hy:G o y) {o':Nat} (ho:o'≤o) {r:Bs} (hr:Brk r) (hn:opOf (tok (skip r))=none) :
  pCond Pr o' (condText k x y ++ r)=.ok ((k,x,y),skip r):=by
 obtain ⟨s1,s2,s3,s4,s5⟩:=rel_tok hk (y.2 ++ r)
 unfold condText
 rw [show (x.2 ++ [32] ++ relSign k ++ [32] ++ y.2) ++ r=x.2 ++ (32 :: (relSign k ++ 32 :: (y.2 ++ r))) by simp]
 have h1:=hx.read ho (r:=32 :: (relSign k ++ 32 :: (y.2 ++ r))) (brk_32 _) (by rw [s3,s1,s5])
 unfold pCond
 rw [h1]
 simp only
 rw [s3,s1,s4]
 simp only
 rw [s2,hy.nb.skip,hy.read ho hr hn]
theorem condText_nb {o k:Nat} {x y:Nat × Bs} (hx:G o x):NB (condText k x y):=(((hx.nb.app _).app _).app _).app _
theorem take_one {c:UInt8} {r:Bs} (hc:c ∈ ones) (h2:c ∈ twos→r.head? ≠ some 61):take [c] (c :: r)=.ok (skip r):=by
 obtain ⟨q1,q2,_⟩:=tok_one hc h2
 unfold take
 rw [if_pos q1,q2]
theorem tok_else {l:Bs} (h:tok l=wElse):tokKind l=2:=by
 cases l with
 | nil=>cases h
 | cons c r =>
  unfold tok at h
  cases hn:tokLen (c :: r) with
  | zero=>rw [hn] at h; cases h
  | succ n =>
   rw [hn] at h
   simp only [List.take_succ_cons,wElse,List.cons.injEq] at h
   simp [tokKind,h.1,isLet]
structure T (o:Nat) (x:Nat→Bs):Prop where
 hd:∀ d,∃ c b,x d=pad d ++ c :: b∧isLet c=true
 ne:∀ d r,tok (skip (x d ++ r)) ≠ wElse
 rd:∀ d n o' r,o'≤o→(x d).length≤n→tok (skip r) ≠ wElse→pStmt Pr n o' (skip (x d ++ r))=.ok (x,skip r)
theorem let_nb {c:UInt8} (h:isLet c=true):isBlank c=false:=by
 simp only [isLet,isBlank,Bool.and_eq_true,decide_eq_true_eq] at *
 simp only [Bool.or_eq_false_iff,beq_eq_false_iff_ne,ne_eq]
 constructor <;> (intro e; subst e; simp at h)
theorem pMany_succ (A:Alg) (st:Bs→R A.T) (m:Nat) (acc:List A.T) (l:Bs):pMany A st (m + 1) acc l=(if tokKind l=2 then (match st l with
   | .ok (x,l1)=>pMany A st m (acc ++ [x]) l1
   | .error e=>.error e) else .ok (acc,l)):=rfl
theorem lines_cons (d:Nat) (x:Nat→Bs) (xs:List (Nat→Bs)):lines d (x :: xs)=x d ++ lines d xs:=rfl
theorem many_read {o:Nat}:∀ xs,(∀ x ∈ xs,T o x)→∀ d n o' r m (acc:List (Nat→Bs)),o'≤o→(lines d xs).length≤n→tokKind (skip r) ≠ 2→(skip (lines d xs ++ r)).length<m →
  pMany Pr (pStmt Pr n o') m acc (skip (lines d xs ++ r))=.ok (acc ++ xs,skip r):=by
 intro xs
 induction xs with
 | nil =>
  intro _ d n o' r m acc _ _ hr hm
  obtain ⟨m',rfl⟩:∃ m',m=m' + 1:=⟨m - 1,by omega⟩
  rw [show lines d [] ++ r=r from rfl,pMany_succ Pr _ m' acc (skip r),if_neg hr,List.append_nil]
 | cons x xs ih =>
  intro hx d n o' r m acc ho hn hr hm
  have tx:=hx x (by simp)
  rw [lines_cons,List.append_assoc] at hm ⊢
  rw [lines_cons,List.length_append] at hn
  obtain ⟨m',rfl⟩:∃ m',m=m' + 1:=⟨m - 1,by omega⟩
  obtain ⟨c,b,hb,hc⟩:=tx.hd d
  have hsk:skip (x d ++ (lines d xs ++ r))=c :: (b ++ (lines d xs ++ r)):=by
   rw [hb,List.append_assoc,skip_pad]
   exact skip_nb _ (let_nb hc)
  have hk:tokKind (skip (x d ++ (lines d xs ++ r)))=2:=by rw [hsk]; simp [tokKind,hc]
  have hne:tok (skip (lines d xs ++ r)) ≠ wElse:=by
   cases xs with
   | nil=>exact fun h=>hr (tok_else h)
   | cons y ys =>
    rw [lines_cons,List.append_assoc]
    exact (hx y (by simp)).ne d _
  have hs:=tx.rd d n o' (lines d xs ++ r) ho (by omega) hne
  rw [pMany_succ Pr _ m' acc _,if_pos hk,hs]
  simp only
  have hlen:(skip (lines d xs ++ r)).length<m':=by
   rw [hsk] at hm
   have:=skip_len (lines d xs ++ r)
   simp only [List.length_cons,List.length_append] at hm this
   omega
  exact (ih (fun z hz=>hx z (by simp [hz])) d n o' r m' (acc ++ [x]) ho (by omega) hr hlen).trans (by simp)
theorem block_read {o:Nat} {xs:List (Nat→Bs)} (h:∀ x ∈ xs,T (o + 1) x) (ho:o<12) {o':Nat} (ho':o'≤o) {n d d':Nat} {r:Bs} (hn:(lines d xs).length≤n) :
  pBlock Pr (pStmt Pr n (o' + 1)) o' (123 :: 10 :: (lines d xs ++ (pad d' ++ 125 :: r)))=.ok (xs,skip r):=by
 obtain ⟨q1,q2,_⟩:=tok_one (c:=123) (r:=10 :: (lines d xs ++ (pad d' ++ 125 :: r))) (by decide) (fun h=>absurd h (by decide))
 obtain ⟨p1,_,p3⟩:=tok_one (c:=125) (r:=r) (by decide) (fun h=>absurd h (by decide))
 have hsk:skip (pad d' ++ 125 :: r)=125 :: r:=by rw [skip_pad]; exact skip_nb _ (by decide)
 have hm:=many_read xs h d n (o' + 1) (pad d' ++ 125 :: r) ((skip (lines d xs ++ (pad d' ++ 125 :: r))).length + 1) [] (by omega) hn (by rw [hsk,p3]; decide) (by omega)
 rw [hsk] at hm
 have hm':pMany Pr (pStmt Pr n (o' + 1)) ((skip (lines d xs ++ (pad d' ++ 125 :: r))).length + 1) [] (skip (lines d xs ++ (pad d' ++ 125 :: r)))=(.ok (xs,125 :: r):R (List Pr.T)):=hm
 unfold pBlock enter
 rw [if_pos q1,if_neg (by omega),q2,skip_10]
 simp only
 rw [hm']
 simp only
 rw [take_one (by decide) (fun h=>absurd h (by decide))]
theorem len1_ne {k:Nat} {w:Bs} (h:w.length ≠ 1):letter k ≠ w:=by
 intro e; exact h (by rw [← e]; rfl)
theorem T.assign {o k:Nat} {x:Nat × Bs} (hk:k<8) (hx:G o x):T o (Pr.assign k x):=by
 have e:∀ d r,skip (Pr.assign k x d ++ r)=letter k ++ (32 :: 61 :: 32 :: (x.2 ++ 59 :: 10 :: r)):=by
  intro d r
  show skip ((pad d ++ letter k ++ [32,61,32] ++ x.2 ++ [59,10]) ++ r)=_
  rw [show (pad d ++ letter k ++ [32,61,32] ++ x.2 ++ [59,10]) ++ r=pad d ++ (letter k ++ (32 :: 61 :: 32 :: (x.2 ++ 59 :: 10 :: r))) by simp,skip_pad]
  exact (letter_nb hk).skip _
 have hw:∀ z:Bs,∀ c,(32 :: z:Bs).head?=some c→isLet c=false:=by
  intro z c h; cases h; decide
 refine ⟨?_,?_,?_⟩
 ·intro d
  refine ⟨UInt8.ofNat (97 + k),[32,61,32] ++ x.2 ++ [59,10],?_,letter_let hk _ (by simp [letter])⟩
  show pad d ++ letter k ++ [32,61,32] ++ x.2 ++ [59,10]=_
  simp [letter]
 ·intro d r
  rw [e,(tok_word (t:=letter k) (by simp [letter]) (letter_let hk) (hw _)).1]
  exact len1_ne (by decide)
 ·intro d n o' r ho hn _
  obtain ⟨n',rfl⟩:∃ n',n=n' + 1:=by
   refine ⟨n - 1,?_⟩
   have h1:(pad d ++ letter k ++ [32,61,32] ++ x.2 ++ [59,10]).length≤n:=hn
   simp only [List.length_append,List.length_cons] at h1
   omega
  obtain ⟨q1,_,_⟩:=tok_word (t:=letter k) (by simp [letter]) (letter_let hk) (hw (61 :: 32 :: (x.2 ++ 59 :: 10 :: r)))
  rw [e]
  unfold pStmt
  rw [q1,if_neg (len1_ne (by decide)),if_neg (len1_ne (by decide)),if_neg (len1_ne (by decide)),if_neg (len1_ne (by decide))]
  unfold pAssign
  rw [pName_letter hk (hw _)]
  simp only
  rw [skip_32,skip_nb _ (by decide),take_one (by decide) (fun _ h=>by cases h)]
  simp only
  have hsk:skip (59 :: 10 :: r)=59 :: 10 :: r:=skip_nb _ (by decide)
  have ht:opOf (tok (skip (59 :: 10 :: r)))=none:=by
   rw [hsk,(tok_one (c:=59) (by decide) (fun h=>absurd h (by decide))).1]; rfl
  rw [skip_32,hx.nb.skip,hx.read ho (brk_59 _) ht]
  simp only
  rw [hsk,take_one (by decide) (fun h=>absurd h (by decide)),skip_10]
end Sp
end Go.Proofs.YtiopfihjmkfdmaaGreatDoor
namespace Go.Proofs.YtiopfihjmkfdmaaGreatDoor
namespace Sp
theorem word_tok {w:Bs} (h0:w ≠ []) (hl:∀ c ∈ w,isLet c=true) (z:Bs):tok (w ++ 32 :: z)=w∧next (w ++ 32 :: z)=skip z:=by
 obtain ⟨h1,h2,_⟩:=tok_word (r:=32 :: z) h0 hl (fun c h=>by cases h; decide)
 exact ⟨h1,h2.trans (skip_32 z)⟩
theorem word_nb {w:Bs} (h0:w ≠ []) (hl:∀ c ∈ w,isLet c=true):NB w:=by
 cases w with
 | nil=>exact absurd rfl h0
 | cons c r=>exact ⟨c,r,rfl,let_nb (hl c (by simp))⟩
theorem T.word {o:Nat} {x:Nat→Bs} (w:Bs) (tail:Nat→Bs) (h0:w ≠ []) (hl:∀ c ∈ w,isLet c=true) (hw:w ≠ wElse) (hx:∀ d,x d=pad d ++ w ++ [32] ++ tail d)
  (hr:∀ d n o' r,o'≤o→(tail d).length≤n→tok (skip r) ≠ wElse→pStmt Pr (n + 1) o' (w ++ 32 :: (tail d ++ r))=.ok (x,skip r)):T o x:=by
 have e:∀ d r,skip (x d ++ r)=w ++ 32 :: (tail d ++ r):=by
  intro d r
  rw [hx,show (pad d ++ w ++ [32] ++ tail d) ++ r=pad d ++ (w ++ 32 :: (tail d ++ r)) by simp,skip_pad]
  exact (word_nb h0 hl).skip _
 refine ⟨?_,?_,?_⟩
 ·intro d
  cases w with
  | nil=>exact absurd rfl h0
  | cons c w'=>exact ⟨c,w' ++ [32] ++ tail d,by rw [hx]; simp,hl c (by simp)⟩
 ·intro d r
  rw [e,(word_tok h0 hl _).1]
  exact hw
 ·intro d n o' r ho hn hne
  rw [hx] at hn
  simp only [List.length_append,List.length_cons,List.length_nil] at hn
  obtain ⟨n',rfl⟩:∃ n',n=n' + 1:=⟨n - 1,by omega⟩
  rw [e]
  exact hr d n' o' r ho (by omega) hne
theorem semi (r:Bs):skip (59 :: 10 :: r)=59 :: 10 :: r∧opOf (tok (skip (59 :: 10 :: r)))=none∧take [59] (59 :: 10 :: r)=.ok (skip r):=by
 have hsk:skip (59 :: 10 :: r)=59 :: 10 :: r:=skip_nb _ (by decide)
 refine ⟨hsk,?_,?_⟩
 ·rw [hsk,(tok_one (c:=59) (by decide) (fun h=>absurd h (by decide))).1]; rfl
 ·rw [take_one (by decide) (fun h=>absurd h (by decide)),skip_10]
theorem brace (r:Bs):skip (32 :: 123 :: 10 :: r)=123 :: 10 :: r∧opOf (tok (skip (32 :: 123 :: 10 :: r)))=none:=by
 have hsk:skip (32 :: 123 :: 10 :: r)=123 :: 10 :: r:=(skip_32 _).trans (skip_nb _ (by decide))
 refine ⟨hsk,?_⟩
 rw [hsk,(tok_one (c:=123) (by decide) (fun h=>absurd h (by decide))).1]; rfl
theorem T.read {o k:Nat} (hk:k<8):T o (Pr.read k):=by
 refine T.word wRead (fun _=>letter k ++ [59,10]) (by decide) (by decide) (by decide) (fun d=>?_) ?_
 ·show pad d ++ [114,101,97,100,32] ++ letter k ++ [59,10]=_
  simp [wRead]
 ·intro d n o' r _ _ _
  rw [show letter k ++ [59,10] ++ r=letter k ++ 59 :: 10 :: r by simp]
  obtain ⟨q1,q2⟩:=word_tok (w:=wRead) (by decide) (by decide) (letter k ++ 59 :: 10 :: r)
  obtain ⟨s1,_,s3⟩:=semi r
  unfold pStmt
  rw [if_pos q1]
  unfold pRead
  rw [q2,(letter_nb hk).skip,pName_letter hk (brk_59 _).let]
  simp only
  rw [s1,s3]
theorem T.assert {o k:Nat} {x y:Nat × Bs} (hk:k<6) (hx:G o x) (hy:G o y):T o (Pr.assert k x y):=by
 refine T.word wAssert (fun _=>condText k x y ++ [59,10]) (by decide) (by decide) (by decide) (fun d=>?_) ?_
 ·show pad d ++ [97,115,115,101,114,116,32] ++ condText k x y ++ [59,10]=_
  simp [wAssert]
 ·intro d n o' r ho _ _
  rw [show condText k x y ++ [59,10] ++ r=condText k x y ++ 59 :: 10 :: r by simp]
  obtain ⟨q1,q2⟩:=word_tok (w:=wAssert) (by decide) (by decide) (condText k x y ++ 59 :: 10 :: r)
  obtain ⟨s1,s2,s3⟩:=semi r
  unfold pStmt
  rw [q1,if_neg (by decide),if_pos rfl]
  unfold pAssert
  rw [q2,(condText_nb (y:=y) hx).skip,cond_read hk hx hy ho (brk_59 _) s2]
  simp only
  rw [s1,s3]
theorem T.loop {o k:Nat} {x y:Nat × Bs} {xs:List (Nat→Bs)} (hk:k<6) (hx:G o x) (hy:G o y) (ho:o<12) (hxs:∀ z ∈ xs,T (o + 1) z):T o (Pr.loop k x y xs):=by
 refine T.word wWhile (fun d=>condText k x y ++ [32,123,10] ++ lines (d + 1) xs ++ pad d ++ [125,10]) (by decide) (by decide) (by decide) (fun d=>?_) ?_
 ·show pad d ++ [119,104,105,108,101,32] ++ condText k x y ++ [32,123,10] ++ lines (d + 1) xs ++ pad d ++ [125,10]=_
  simp [wWhile]
 ·intro d n o' r ho' hn _
  simp only [List.length_append,List.length_cons,List.length_nil] at hn
  rw [show condText k x y ++ [32,123,10] ++ lines (d + 1) xs ++ pad d ++ [125,10] ++ r=condText k x y ++ 32 :: 123 :: 10 :: (lines (d + 1) xs ++ (pad d ++ 125 :: (10 :: r))) by simp]
  obtain ⟨q1,q2⟩:=word_tok (w:=wWhile) (by decide) (by decide) (condText k x y ++ 32 :: 123 :: 10 :: (lines (d + 1) xs ++ (pad d ++ 125 :: (10 :: r))))
  obtain ⟨s1,s2⟩:=brace (lines (d + 1) xs ++ (pad d ++ 125 :: (10 :: r)))
  unfold pStmt
  rw [q1,if_neg (by decide),if_neg (by decide),if_neg (by decide),if_pos rfl]
  unfold pWhile
  rw [q2,(condText_nb (y:=y) hx).skip,cond_read hk hx hy ho' (brk_32 _) s2]
  simp only
  rw [s1,block_read hxs ho ho' (n:=n) (by omega)]
  simp only
  rw [skip_10]
theorem T.ite {o k:Nat} {x y:Nat × Bs} {xs:List (Nat→Bs)} (hk:k<6) (hx:G o x) (hy:G o y) (ho:o<12) (hxs:∀ z ∈ xs,T (o + 1) z):T o (Pr.ite k x y xs none):=by
 refine T.word wIf (fun d=>condText k x y ++ [32,123,10] ++ lines (d + 1) xs ++ pad d ++ [125,10]) (by decide) (by decide) (by decide) (fun d=>?_) ?_
 ·show pad d ++ [105,102,32] ++ condText k x y ++ [32,123,10] ++ lines (d + 1) xs ++ [] ++ pad d ++ [125,10]=_
  simp [wIf]
 ·intro d n o' r ho' hn hne
  simp only [List.length_append,List.length_cons,List.length_nil] at hn
  rw [show condText k x y ++ [32,123,10] ++ lines (d + 1) xs ++ pad d ++ [125,10] ++ r=condText k x y ++ 32 :: 123 :: 10 :: (lines (d + 1) xs ++ (pad d ++ 125 :: (10 :: r))) by simp]
  obtain ⟨q1,q2⟩:=word_tok (w:=wIf) (by decide) (by decide) (condText k x y ++ 32 :: 123 :: 10 :: (lines (d + 1) xs ++ (pad d ++ 125 :: (10 :: r))))
  obtain ⟨s1,s2⟩:=brace (lines (d + 1) xs ++ (pad d ++ 125 :: (10 :: r)))
  unfold pStmt
  rw [q1,if_neg (by decide),if_neg (by decide),if_pos rfl]
  unfold pIf
  rw [q2,(condText_nb (y:=y) hx).skip,cond_read hk hx hy ho' (brk_32 _) s2]
  simp only
  rw [s1,block_read hxs ho ho' (n:=n) (by omega)]
  simp only
  rw [skip_10,if_neg hne]
theorem T.iteElse {o k:Nat} {x y:Nat × Bs} {xs ys:List (Nat→Bs)} (hk:k<6) (hx:G o x) (hy:G o y) (ho:o<12) (hxs:∀ z ∈ xs,T (o + 1) z) (hys:∀ z ∈ ys,T (o + 1) z):T o (Pr.ite k x y xs (some ys)):=by
 refine T.word wIf (fun d=>condText k x y ++ [32,123,10] ++ lines (d + 1) xs ++ pad d ++ [125,32,101,108,115,101,32,123,10] ++ lines (d + 1) ys ++ pad d ++ [125,10]) (by decide) (by decide) (by decide) (fun d=>?_) ?_
 ·show pad d ++ [105,102,32] ++ condText k x y ++ [32,123,10] ++ lines (d + 1) xs ++ (pad d ++ [125,32,101,108,115,101,32,123,10] ++ lines (d + 1) ys) ++ pad d ++ [125,10]=_
  simp [wIf]
 ·intro d n o' r ho' hn _
  simp only [List.length_append,List.length_cons,List.length_nil] at hn
  rw [show condText k x y ++ [32,123,10] ++ lines (d + 1) xs ++ pad d ++ [125,32,101,108,115,101,32,123,10] ++ lines (d + 1) ys ++ pad d ++ [125,10] ++ r=condText k x y ++ 32 :: 123 :: 10 :: (lines (d + 1) xs ++ (pad d ++ 125 :: (32 :: (wElse ++ 32 :: 123 :: 10 :: (lines (d + 1) ys ++ (pad d ++ 125 :: (10 :: r))))))) by simp [wElse]]
  obtain ⟨q1,q2⟩:=word_tok (w:=wIf) (by decide) (by decide) (condText k x y ++ 32 :: 123 :: 10 :: (lines (d + 1) xs ++ (pad d ++ 125 :: (32 :: (wElse ++ 32 :: 123 :: 10 :: (lines (d + 1) ys ++ (pad d ++ 125 :: (10 :: r))))))))
  obtain ⟨s1,s2⟩:=brace (lines (d + 1) xs ++ (pad d ++ 125 :: (32 :: (wElse ++ 32 :: 123 :: 10 :: (lines (d + 1) ys ++ (pad d ++ 125 :: (10 :: r)))))))
  obtain ⟨p1,p2⟩:=word_tok (w:=wElse) (by decide) (by decide) (123 :: 10 :: (lines (d + 1) ys ++ (pad d ++ 125 :: (10 :: r))))
  unfold pStmt
  rw [q1,if_neg (by decide),if_neg (by decide),if_pos rfl]
  unfold pIf
  rw [q2,(condText_nb (y:=y) hx).skip,cond_read hk hx hy ho' (brk_32 _) s2]
  simp only
  rw [s1,block_read hxs ho ho' (n:=n) (by omega)]
  simp only
  rw [skip_32,(word_nb (w:=wElse) (by decide) (by decide)).skip,if_pos p1,p2,skip_nb _ (by decide),block_read hys ho ho' (n:=n) (by omega)]
  simp only
  rw [skip_10]
end Sp
end Go.Proofs.YtiopfihjmkfdmaaGreatDoor
