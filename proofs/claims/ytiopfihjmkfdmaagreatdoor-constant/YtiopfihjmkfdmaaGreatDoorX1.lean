import Derived.KernelRfl
import Derived.Test.YtiopfihjmkfdmaaGreatDoorRows
import Derived.WalkKit
import Derived.WalkLawsBesides
import Derived.WalkSpells
namespace Go.Proofs.YtiopfihjmkfdmaaGreatDoor
namespace Sp
abbrev Bs:=List UInt8
def isLet (c:UInt8):Bool:=decide (97≤c.toNat) && decide (c.toNat≤122)
def isDig (c:UInt8):Bool:=decide (48≤c.toNat) && decide (c.toNat≤57)
def isBlank (c:UInt8):Bool:=c == 32 || c == 10
def headRun (p:UInt8→Bool) (l:Bs):Nat:=(l.takeWhile p).length
def twos:Bs:=[60,62,61,33]
def ones:Bs:=[60,62,61,43,45,42,47,37,40,41,123,125,59]
def signLen:Bs→Nat
 | []=>0
 | c :: r=>if r.head?=some 61∧c ∈ twos then 2 else if c ∈ ones then 1 else 0
def tokKind:Bs→Nat
 | []=>1
 | c :: r=>if isLet c then 2 else if isDig c then 3 else if 0<signLen (c :: r) then 4 else 0
def tokLen:Bs→Nat
 | []=>0
 | c :: r=>if isLet c then headRun isLet (c :: r) else if isDig c then headRun isDig (c :: r) else signLen (c :: r)
def skip (l:Bs):Bs:=l.dropWhile isBlank
def tok (l:Bs):Bs:=l.take (tokLen l)
def next (l:Bs):Bs:=skip (l.drop (tokLen l))
abbrev R (α:Type):=Except (Nat × Nat) (α × Bs)
def bad {α:Type} (e:Nat) (l:Bs):Except (Nat × Nat) α:=.error (e,l.length)
def take (t:Bs) (l:Bs):Except (Nat × Nat) Bs:=if tok l=t then .ok (next l) else bad 2 l
def enter (t:Bs) (o:Nat) (l:Bs):Except (Nat × Nat) Bs:=if tok l=t then (if o=12 then bad 3 l else .ok (next l)) else bad 2 l
structure Alg where
 S:Type
 num:Nat→S
 name:Nat→S
 neg:S→S
 bin:Nat→S→S→S
 T:Type
 assign:Nat→S→T
 read:Nat→T
 assert:Nat→S→S→T
 ite:Nat→S→S→List T→Option (List T)→T
 loop:Nat→S→S→List T→T
def opOf (t:Bs):Option Nat :=
 if t=[43] then some 0 else if t=[45] then some 1 else if t=[42] then some 2 else if t=[47] then some 3 else if t=[37] then some 4 else none
def opLevel (k:Nat):Nat:=if k≤1 then 0 else 1
def relOf (t:Bs):Option Nat :=
 if t=[60] then some 0 else if t=[60,61] then some 1 else if t=[61,61] then some 2 else if t=[33,61] then some 3 else if t=[62,61] then some 4 else if t=[62] then some 5 else none
def decimal (t:Bs):Nat:=t.foldl (fun a c=>a * 10 + (c.toNat - 48)) 0
def numVal (t:Bs):Option Nat:=if 1<t.length∧t.head?=some 48 then none else if decimal t≤32767 then some (decimal t) else none
def nameVal (l:Bs):Option Nat:=match tok l with
 | [c]=>if tokKind l=2∧c.toNat<105 then some (c.toNat - 97) else none
 | _=>none
def pName (l:Bs):R Nat:=match nameVal l with
 | some k=>.ok (k,next l)
 | none=>bad 2 l
def pChain (A:Alg) (lv:Nat) (part:Bs→R A.S):Nat→A.S→Bs→R A.S
 | 0,x,l=>.ok (x,l)
 | m + 1,x,l=>match opOf (tok l) with
  | some k=>if opLevel k=lv then (match part (next l) with
    | .ok (y,l')=>pChain A lv part m (A.bin k x y) l'
    | .error e=>.error e) else .ok (x,l)
  | none=>.ok (x,l)
def pWith (A:Alg) (lv:Nat) (part:Bs→R A.S) (l:Bs):R A.S:=match part l with
 | .ok (x,l')=>pChain A lv part (l'.length + 1) x l'
 | .error e=>.error e
def pProd (A:Alg) (u:Bs→R A.S) (l:Bs):R A.S:=pWith A 1 u l
def pSum (A:Alg) (u:Bs→R A.S) (l:Bs):R A.S:=pWith A 0 (pProd A u) l
def pUnary (A:Alg):Nat→Nat→Bs→R A.S
 | 0,_,l=>bad 2 l
 | n + 1,o,l =>
  if tokKind l=3 then (match numVal (tok l) with
   | some v=>.ok (A.num v,next l)
   | none=>bad 2 l)
  else if tokKind l=2 then (match pName l with
   | .ok (k,l1)=>.ok (A.name k,l1)
   | .error e=>.error e)
  else if tok l=[45] then (match enter [45] o l with
   | .ok l1=>(match pUnary A n (o + 1) l1 with
    | .ok (x,l2)=>.ok (A.neg x,l2)
    | .error e=>.error e)
   | .error e=>.error e)
  else (match enter [40] o l with
   | .ok l1=>(match pSum A (pUnary A n (o + 1)) l1 with
    | .ok (x,l2)=>(match take [41] l2 with
     | .ok l3=>.ok (x,l3)
     | .error e=>.error e)
    | .error e=>.error e)
   | .error e=>.error e)
def pS (A:Alg) (o:Nat) (l:Bs):R A.S:=pSum A (pUnary A (l.length + 1) o) l
def pCond (A:Alg) (o:Nat) (l:Bs):R (Nat × A.S × A.S):=match pS A o l with
 | .ok (x,l1)=>(match relOf (tok l1) with
  | some k=>(match pS A o (next l1) with
   | .ok (y,l2)=>.ok ((k,x,y),l2)
   | .error e=>.error e)
  | none=>bad 2 l1)
 | .error e=>.error e
def pMany (A:Alg) (st:Bs→R A.T):Nat→List A.T→Bs→R (List A.T)
 | 0,acc,l=>.ok (acc,l)
 | m + 1,acc,l=>if tokKind l=2 then (match st l with
     | .ok (x,l1)=>pMany A st m (acc ++ [x]) l1
     | .error e=>.error e) else .ok (acc,l)
def pBlock (A:Alg) (st:Bs→R A.T) (o:Nat) (l:Bs):R (List A.T):=match enter [123] o l with
 | .ok l1=>(match pMany A st (l1.length + 1) [] l1 with
  | .ok (xs,l2)=>(match take [125] l2 with
   | .ok l3=>.ok (xs,l3)
   | .error e=>.error e)
  | .error e=>.error e)
 | .error e=>.error e
def wRead:Bs:=[114,101,97,100]
def wAssert:Bs:=[97,115,115,101,114,116]
def wIf:Bs:=[105,102]
def wWhile:Bs:=[119,104,105,108,101]
def wElse:Bs:=[101,108,115,101]
def pAssign (A:Alg) (o:Nat) (l:Bs):R A.T:=match pName l with
 | .ok (k,l1)=>(match take [61] l1 with
  | .ok l2=>(match pS A o l2 with
   | .ok (x,l3)=>(match take [59] l3 with
    | .ok l4=>.ok (A.assign k x,l4)
    | .error e=>.error e)
   | .error e=>.error e)
  | .error e=>.error e)
 | .error e=>.error e
def pRead (A:Alg) (l:Bs):R A.T:=match pName (next l) with
 | .ok (k,l1)=>(match take [59] l1 with
  | .ok l2=>.ok (A.read k,l2)
  | .error e=>.error e)
 | .error e=>.error e
def pAssert (A:Alg) (o:Nat) (l:Bs):R A.T:=match pCond A o (next l) with
 | .ok ((k,x,y),l1)=>(match take [59] l1 with
  | .ok l2=>.ok (A.assert k x y,l2)
  | .error e=>.error e)
 | .error e=>.error e
def pIf (A:Alg) (blk:Bs→R (List A.T)) (o:Nat) (l:Bs):R A.T:=match pCond A o (next l) with
 | .ok ((k,x,y),l1)=>(match blk l1 with
  | .ok (xs,l2)=>if tok l2=wElse then (match blk (next l2) with
    | .ok (ys,l3)=>.ok (A.ite k x y xs (some ys),l3)
    | .error e=>.error e) else .ok (A.ite k x y xs none,l2)
  | .error e=>.error e)
 | .error e=>.error e
def pWhile (A:Alg) (blk:Bs→R (List A.T)) (o:Nat) (l:Bs):R A.T:=match pCond A o (next l) with
 | .ok ((k,x,y),l1)=>(match blk l1 with
  | .ok (xs,l2)=>.ok (A.loop k x y xs,l2)
  | .error e=>.error e)
 | .error e=>.error e
def pStmt (A:Alg):Nat→Nat→Bs→R A.T
 | 0,_,l=>bad 2 l
 | n + 1,o,l =>
  if tok l=wRead then pRead A l
  else if tok l=wAssert then pAssert A o l
  else if tok l=wIf then pIf A (fun l=>pBlock A (pStmt A n (o + 1)) o l) o l
  else if tok l=wWhile then pWhile A (fun l=>pBlock A (pStmt A n (o + 1)) o l) o l
  else pAssign A o l
def pProg (A:Alg) (l:Bs):Except (Nat × Nat) (List A.T):=match pMany A (pStmt A (l.length + 1) 0) (l.length + 1) [] l with
 | .ok (xs,l1)=>if l1=[] then .ok xs else bad 2 l1
 | .error e=>.error e
def parse (A:Alg) (src:Bs):Except (Nat × Nat) (List A.T) :=
 if 400<src.length then .error (1,0) else match pProg A (skip src) with
  | .ok xs=>.ok xs
  | .error (e,left)=>.error (e,src.length - left)
def opSign (k:Nat):Bs:=match k with
 | 0=>[43] | 1=>[45] | 2=>[42] | 3=>[47] | _=>[37]
def relSign (k:Nat):Bs:=match k with
 | 0=>[60] | 1=>[60,61] | 2=>[61,61] | 3=>[33,61] | 4=>[62,61] | _=>[62]
def part (x:Nat × Bs) (least:Nat):Bs:=if x.1<least then [40] ++ x.2 ++ [41] else x.2
def digitsF:Nat→Nat→Bs
 | 0,_=>[]
 | f + 1,n=>if n<10 then [UInt8.ofNat (48 + n)] else digitsF f (n / 10) ++ [UInt8.ofNat (48 + n % 10)]
def digits (n:Nat):Bs:=digitsF 20 n
def letter (k:Nat):Bs:=[UInt8.ofNat (97 + k)]
def pad (d:Nat):Bs:=List.replicate (2 * d) 32
def condText (k:Nat) (x y:Nat × Bs):Bs:=x.2 ++ [32] ++ relSign k ++ [32] ++ y.2
def lines (d:Nat) (xs:List (Nat→Bs)):Bs:=(xs.map fun x=>x d).flatten
def Pr:Alg where
 S:=Nat × Bs
 num n:=(2,digits n)
 name k:=(2,letter k)
 neg x:=(2,[45] ++ part x 2)
 bin k x y:=(opLevel k,part x (opLevel k) ++ [32] ++ opSign k ++ [32] ++ part y (opLevel k + 1))
 T:=Nat→Bs
 assign k x:=fun d=>pad d ++ letter k ++ [32,61,32] ++ x.2 ++ [59,10]
 read k:=fun d=>pad d ++ [114,101,97,100,32] ++ letter k ++ [59,10]
 assert k x y:=fun d=>pad d ++ [97,115,115,101,114,116,32] ++ condText k x y ++ [59,10]
 ite k x y xs ys:=fun d=>pad d ++ [105,102,32] ++ condText k x y ++ [32,123,10] ++ lines (d + 1) xs ++ (match ys with
  | some ys=>pad d ++ [125,32,101,108,115,101,32,123,10] ++ lines (d + 1) ys
  | none=>[]) ++ pad d ++ [125,10]
 loop k x y xs:=fun d=>pad d ++ [119,104,105,108,101,32] ++ condText k x y ++ [32,123,10] ++ lines (d + 1) xs ++ pad d ++ [125,10]
end Sp
end Go.Proofs.YtiopfihjmkfdmaaGreatDoor
namespace Go.Proofs.YtiopfihjmkfdmaaGreatDoor
open Go.RowKit
theorem ret_bool {a b:Bool} (h:a=b):Ending.returned (.bool a)=.returned (.bool b):=by rw [h]
theorem ret_int {k:IntKind} {a b:Int} (h:a=b):Ending.returned (.int k a)=.returned (.int k b):=by rw [h]
def NumB (o:Option Obj):Prop:=∃ c f,o=some (.cells c 226 f)
theorem not_num {c:Array Value} {t:TypeId} {f:Nat × Nat} (h:t ≠ 226):¬ NumB (some (.cells c t f)):=by
 rintro ⟨c',f',e⟩
 injection e with e
 injection e with _ e2 _
 exact h e2
theorem not_num_map {es:Array MapEntry} {c:Nat}:¬ NumB (some (.map es c)):=by
 rintro ⟨c',f',e⟩
 injection e with e
 cases e
theorem nn_of {w:World} {k:Nat} {c:Array Value} {t:TypeId} {f:Nat × Nat} (h:w.heap[k]?=some (.cells c t f)) (ht:t ≠ 226):¬ NumB w.heap[k]?:=by rw [h]; exact not_num ht
structure Ext (b:Nat) (w w':World):Prop where
 os:w'.os=w.os
 tape:w'.tape=w.tape
 output:w'.output=w.output
 size:w.heap.size≤w'.heap.size
 block:∀ k,k<w.heap.size→k ≠ b→(b<k→¬ NumB w.heap[k]?)→w'.heap[k]?=w.heap[k]?
theorem Ext.refl (b:Nat) (w:World):Ext b w w:=⟨rfl,rfl,rfl,Nat.le_refl _,fun _ _ _ _=>rfl⟩
theorem Ext.trans {b:Nat} {w1 w2 w3:World} (h:Ext b w1 w2) (k:Ext b w2 w3):Ext b w1 w3 :=
 ⟨k.os.trans h.os,k.tape.trans h.tape,k.output.trans h.output,Nat.le_trans h.size k.size,fun i hi hb hn=>by
  have e:=h.block i hi hb hn
  exact (k.block i (Nat.lt_of_lt_of_le hi h.size) hb (fun h'=>by rw [e]; exact hn h')).trans e⟩
theorem Ext.drew {b:Nat} {w w':World} (h:Ext b w w'):Ext b w w'.drew:=⟨h.os,h.tape,h.output,h.size,h.block⟩
theorem Ext.alloc {b:Nat} {w w':World} (h:Ext b w w') (o:Obj):Ext b w (w'.alloc o) :=
 ⟨h.os,h.tape,h.output,by have:=h.size; simp; omega,fun k hk hb hn=>by
  have:=h.size
  rw [Below.heap_alloc _ _ _ (by omega)]; exact h.block k hk hb hn⟩
theorem Ext.setCell {b:Nat} {w w':World} (h:Ext b w w') {p:Addr} (hp:p.block=b∨w.heap.size≤p.block) (u:Value):Ext b w (w'.setCell p u) :=
 ⟨h.os,h.tape,h.output,by have:=h.size; simp [World.setCell]; omega,fun k hk hb hn=>by
  rw [Below.heap_setCell _ _ _ _ (by rcases hp with rfl | hp <;> omega)]; exact h.block k hk hb hn⟩
theorem Ext.of_below {b:Nat} {w w':World} (h:Below w.heap.size w w'):Ext b w w' :=
 ⟨h.os,h.tape,h.output,h.size,fun k hk _ _=>h.block k hk⟩
theorem Ext.below {b B:Nat} {w w':World} (h:Ext b w w') (hB:B≤b) (hw:B≤w.heap.size):Below B w w' :=
 ⟨h.os,h.tape,h.output,h.size,fun k hk=>h.block k (by omega) (by omega) (fun h'=>by omega)⟩
theorem Ext.cell {b:Nat} {w w':World} (h:Ext b w w') {p:Addr} (hp:p.block<w.heap.size) (hb:p.block ≠ b) (hn:b<p.block→¬ NumB w.heap[p.block]?):w'.cell? p=w.cell? p:=World.cell?_of_block (w:=w) (h.block p.block hp hb hn)
theorem cell_of {w:World} {b:Nat} {c:Array Value} {t:TypeId} {f:Nat × Nat} (h:w.heap[b]?=some (.cells c t f)) (i:Nat) {v:Value} (hv:c[i]?=some v):w.cell? ⟨b,i,none⟩=some v:=by
 simp [World.cell?,h,hv]
theorem frozen_of {w:World} {b:Nat} {c:Array Value} {t:TypeId} (h:w.heap[b]?=some (.cells c t (0,0))) (i:Nat):w.frozen? ⟨b,i,none⟩=false:=by
 simp [World.frozen?,h]
theorem heap_setCell_at {w:World} {b:Nat} {c:Array Value} {t:TypeId} {f:Nat × Nat} (h:w.heap[b]?=some (.cells c t f)) (i:Nat) (v:Value):(w.setCell ⟨b,i,none⟩ v).heap[b]?=some (.cells (c.setIfInBounds i v) t f):=by
 simp [World.setCell,Array.getElem?_modify,h]
theorem heap_lt {w:World} {b:Nat} {o:Obj} (h:w.heap[b]?=some o):b<w.heap.size:=by
 have:=Array.getElem?_eq_some_iff.1 h
 exact this.1
theorem num_set {w:World} {k:Nat} {p:Addr} {u:Value} (h:NumB (w.setCell p u).heap[k]?):NumB w.heap[k]?:=by
 by_cases e:k=p.block
 ·obtain ⟨c,f,h⟩:=h
  rw [World.setCell] at h
  subst e
  simp only [Array.getElem?_modify,if_true] at h
  cases hh:w.heap[p.block]? with
  | none=>rw [hh] at h; cases h
  | some o =>
   rw [hh] at h
   cases o with
   | cells c0 t0 f0 =>
    simp at h
    exact ⟨c0,f0,by rw [h.2.1]⟩
   | _=>simp at h
 ·rwa [Below.heap_setCell _ _ _ _ e] at h
theorem nn_set {w:World} {k:Nat} {p:Addr} {u:Value} (h:¬ NumB w.heap[k]?):¬ NumB (w.setCell p u).heap[k]?:=fun h'=>h (num_set h')
theorem Ext.keep {b k:Nat} {w w':World} (h:Ext b w w') {o:Obj} (hk:w.heap[k]?=some o) (hb:k ≠ b) (hn:¬ NumB (some o)):w'.heap[k]?=some o:=by
 rw [h.block k (heap_lt hk) hb (fun _=>by rw [hk]; exact hn)]; exact hk
theorem heap_alloc_old {w:World} {b:Nat} {o o':Obj} (h:w.heap[b]?=some o):(w.alloc o').heap[b]?=some o:=by
 rw [Below.heap_alloc _ _ _ (heap_lt h)]; exact h
theorem heap_alloc_new (w:World) (o:Obj):(w.alloc o).heap[w.heap.size]?=some o:=by
 show (w.heap.push o)[w.heap.size]?=some o
 simp
namespace Sp
theorem signLen_cons (c:UInt8) (r:Bs):signLen (c :: r)=if r.head?=some 61∧c ∈ twos then 2 else if c ∈ ones then 1 else 0:=rfl
theorem tokLen_cons (c:UInt8) (r:Bs):tokLen (c :: r)=if isLet c then headRun isLet (c :: r) else if isDig c then headRun isDig (c :: r) else signLen (c :: r):=rfl
theorem tokKind_cons (c:UInt8) (r:Bs):tokKind (c :: r)=if isLet c then 2 else if isDig c then 3 else if 0<signLen (c :: r) then 4 else 0:=rfl
theorem headRun_le (p:UInt8→Bool) (l:Bs):headRun p l≤l.length:=by
 unfold headRun; exact (List.takeWhile_prefix p).length_le
theorem headRun_cons (p:UInt8→Bool) (c:UInt8) (r:Bs):headRun p (c :: r)=if p c then headRun p r + 1 else 0:=by
 unfold headRun; rw [List.takeWhile_cons]; split <;> simp
theorem signLen_le (l:Bs):signLen l≤l.length:=by
 cases l with
 | nil=>simp [signLen]
 | cons c r =>
  rw [signLen_cons]
  split
  ·rename_i h
   cases r with
   | nil=>simp at h
   | cons d r=>simp
  ·split <;> simp
theorem tokLen_le (l:Bs):tokLen l≤l.length:=by
 cases l with
 | nil=>simp [tokLen]
 | cons c r =>
  rw [tokLen_cons]
  split
  ·exact headRun_le _ _
  ·split
   ·exact headRun_le _ _
   ·exact signLen_le _
theorem skip_suffix (l:Bs):skip l <:+ l:=List.dropWhile_suffix _
theorem next_suffix (l:Bs):next l <:+ l:=(skip_suffix _).trans (List.drop_suffix _ _)
theorem skip_le (l:Bs):(skip l).length≤l.length:=(skip_suffix l).length_le
theorem next_le (l:Bs):(next l).length≤l.length:=(next_suffix l).length_le
theorem tokLen_pos {l:Bs} (h:tokKind l=2∨tokKind l=3∨tokKind l=4):0<tokLen l:=by
 cases l with
 | nil=>simp [tokKind] at h
 | cons c r =>
  rw [tokKind_cons] at h
  rw [tokLen_cons]
  by_cases hl:isLet c=true
  ·simp [hl,headRun_cons]
  ·by_cases hd:isDig c=true
   ·simp [hl,hd,headRun_cons]
   ·by_cases hs:0<signLen (c :: r)
    ·simp [hl,hd,hs]
    ·simp [hl,hd,hs] at h
theorem tok_length (l:Bs):(tok l).length=tokLen l:=by
 unfold tok; rw [List.length_take]; have:=tokLen_le l; omega
theorem next_lt {l:Bs} (h:0<tokLen l):(next l).length<l.length:=by
 have h1:(next l).length≤(l.drop (tokLen l)).length:=skip_le _
 have h2:=tokLen_le l
 rw [List.length_drop] at h1
 omega
theorem next_lt_of_tok {l t:Bs} (h:tok l=t) (ht:t ≠ []):(next l).length<l.length:=by
 apply next_lt
 rw [← tok_length,h]
 exact List.length_pos_iff.2 ht
end Sp
theorem grown_alloc {w w':World} {o:Obj} {row:Option Nat} (hg:(w.alloc o).grownBy w' row):w.grownBy w' row :=
 ⟨hg.os,hg.tape,hg.output,by have:=hg.size; simp at this; omega,fun k hk hr=>by
  rw [hg.block k (by simp; omega) hr]; exact Below.heap_alloc _ _ _ hk⟩
end Go.Proofs.YtiopfihjmkfdmaaGreatDoor
namespace Go.Proofs.YtiopfihjmkfdmaaGreatDoor
open Go.RowKit
set_option maxRecDepth 100000
set_option maxHeartbeats 400000
theorem ta_num_num (x:Value) (w:World):(Instr.typeAssert (.iface 226 x) 277 226 true).run Tryz.prog w=.ok (.tuple #[x,.bool true]) w:=by kernel_rfl
theorem ta_name_num (x:Value) (w:World):(Instr.typeAssert (.iface 275 x) 277 226 true).run Tryz.prog w=.ok (.tuple #[.int .i16 0,.bool false]) w:=by kernel_rfl
theorem ta_name_name (x:Value) (w:World):(Instr.typeAssert (.iface 275 x) 277 275 true).run Tryz.prog w=.ok (.tuple #[x,.bool true]) w:=by kernel_rfl
theorem ta_neg_num (x:Value) (w:World):(Instr.typeAssert (.iface 330 x) 277 226 true).run Tryz.prog w=.ok (.tuple #[.int .i16 0,.bool false]) w:=by kernel_rfl
theorem ta_neg_name (x:Value) (w:World):(Instr.typeAssert (.iface 330 x) 277 275 true).run Tryz.prog w=.ok (.tuple #[.int .i64 0,.bool false]) w:=by kernel_rfl
theorem ta_neg_neg (x:Value) (w:World):(Instr.typeAssert (.iface 330 x) 277 330 true).run Tryz.prog w=.ok (.tuple #[x,.bool true]) w:=by kernel_rfl
theorem ta_bin_num (x:Value) (w:World):(Instr.typeAssert (.iface 334 x) 277 226 true).run Tryz.prog w=.ok (.tuple #[.int .i16 0,.bool false]) w:=by kernel_rfl
theorem ta_bin_name (x:Value) (w:World):(Instr.typeAssert (.iface 334 x) 277 275 true).run Tryz.prog w=.ok (.tuple #[.int .i64 0,.bool false]) w:=by kernel_rfl
theorem ta_bin_neg (x:Value) (w:World):(Instr.typeAssert (.iface 334 x) 277 330 true).run Tryz.prog w=.ok (.tuple #[.agg #[.nilIface],.bool false]) w:=by kernel_rfl
theorem ta_bin_bin (x:Value) (w:World):(Instr.typeAssert (.iface 334 x) 277 334 true).run Tryz.prog w=.ok (.tuple #[x,.bool true]) w:=by kernel_rfl
theorem ts_1_1 (x:Value) (w:World):(Instr.typeAssert (.iface 279 x) 234 279 true).run Tryz.prog w=.ok (.tuple #[x,.bool true]) w:=by kernel_rfl
theorem ts_2_1 (x:Value) (w:World):(Instr.typeAssert (.iface 283 x) 234 279 true).run Tryz.prog w=.ok (.tuple #[.agg #[.int .i64 0,.int .i64 0,.nilIface],.bool false]) w:=by kernel_rfl
theorem ts_2_2 (x:Value) (w:World):(Instr.typeAssert (.iface 283 x) 234 283 true).run Tryz.prog w=.ok (.tuple #[x,.bool true]) w:=by kernel_rfl
theorem ts_3_1 (x:Value) (w:World):(Instr.typeAssert (.iface 287 x) 234 279 true).run Tryz.prog w=.ok (.tuple #[.agg #[.int .i64 0,.int .i64 0,.nilIface],.bool false]) w:=by kernel_rfl
theorem ts_3_2 (x:Value) (w:World):(Instr.typeAssert (.iface 287 x) 234 283 true).run Tryz.prog w=.ok (.tuple #[.agg #[.int .i64 0,.int .i64 0],.bool false]) w:=by kernel_rfl
theorem ts_3_3 (x:Value) (w:World):(Instr.typeAssert (.iface 287 x) 234 287 true).run Tryz.prog w=.ok (.tuple #[x,.bool true]) w:=by kernel_rfl
theorem ts_4_1 (x:Value) (w:World):(Instr.typeAssert (.iface 290 x) 234 279 true).run Tryz.prog w=.ok (.tuple #[.agg #[.int .i64 0,.int .i64 0,.nilIface],.bool false]) w:=by kernel_rfl
theorem ts_4_2 (x:Value) (w:World):(Instr.typeAssert (.iface 290 x) 234 283 true).run Tryz.prog w=.ok (.tuple #[.agg #[.int .i64 0,.int .i64 0],.bool false]) w:=by kernel_rfl
theorem ts_4_3 (x:Value) (w:World):(Instr.typeAssert (.iface 290 x) 234 287 true).run Tryz.prog w=.ok (.tuple #[.agg #[.int .i64 0,.int .i64 0,.int .i64 0,.nilIface,.nilIface],.bool false]) w:=by kernel_rfl
theorem ts_4_4 (x:Value) (w:World):(Instr.typeAssert (.iface 290 x) 234 290 true).run Tryz.prog w=.ok (.tuple #[x,.bool true]) w:=by kernel_rfl
theorem ts_5_1 (x:Value) (w:World):(Instr.typeAssert (.iface 293 x) 234 279 true).run Tryz.prog w=.ok (.tuple #[.agg #[.int .i64 0,.int .i64 0,.nilIface],.bool false]) w:=by kernel_rfl
theorem ts_5_2 (x:Value) (w:World):(Instr.typeAssert (.iface 293 x) 234 283 true).run Tryz.prog w=.ok (.tuple #[.agg #[.int .i64 0,.int .i64 0],.bool false]) w:=by kernel_rfl
theorem ts_5_3 (x:Value) (w:World):(Instr.typeAssert (.iface 293 x) 234 287 true).run Tryz.prog w=.ok (.tuple #[.agg #[.int .i64 0,.int .i64 0,.int .i64 0,.nilIface,.nilIface],.bool false]) w:=by kernel_rfl
theorem ts_5_4 (x:Value) (w:World):(Instr.typeAssert (.iface 293 x) 234 290 true).run Tryz.prog w=.ok (.tuple #[.agg #[.int .i64 0,.int .i64 0,.nilIface,.nilIface,.slice none 0 0,.slice none 0 0,.bool false],.bool false]) w:=by kernel_rfl
theorem ts_5_5 (x:Value) (w:World):(Instr.typeAssert (.iface 293 x) 234 293 true).run Tryz.prog w=.ok (.tuple #[x,.bool true]) w:=by kernel_rfl
end Go.Proofs.YtiopfihjmkfdmaaGreatDoor
namespace Go.Proofs.YtiopfihjmkfdmaaGreatDoor
namespace Sp
def E3 {α:Type} (r:Except (Nat × Nat) α):Prop:=∀ e,r=.error e→e.1 ≠ 0
theorem E3.ok {α:Type} (x:α):E3 (.ok x):=fun _ h=>by cases h
theorem E3.err {α β:Type} {r:Except (Nat × Nat) α} {e:Nat × Nat} (h:E3 r) (hr:r=.error e):E3 (.error e:Except (Nat × Nat) β):=fun _ k=>by cases k; exact h _ hr
theorem E3.bad {α:Type} (l:Bs):E3 (Sp.bad 2 l:Except (Nat × Nat) α):=fun _ h=>by cases h; simp
theorem E3.bad3 {α:Type} (l:Bs):E3 (Sp.bad 3 l:Except (Nat × Nat) α):=fun _ h=>by cases h; simp
theorem take_e (t l:Bs):E3 (take t l):=by
 unfold take; split
 ·exact .ok _
 ·exact .bad _
theorem enter_e (t:Bs) (o:Nat) (l:Bs):E3 (enter t o l):=by
 unfold enter; split
 ·split
  ·exact .bad3 _
  ·exact .ok _
 ·exact .bad _
theorem pName_e (l:Bs):E3 (pName l):=by
 unfold pName; split
 ·exact .ok _
 ·exact .bad _
theorem pChain_e (A:Alg) (lv:Nat) (part:Bs→R A.S) (h:∀ l,E3 (part l)):∀ m x l,E3 (pChain A lv part m x l):=by
 intro m
 induction m with
 | zero=>intro x l; exact .ok _
 | succ m ih =>
  intro x l
  unfold pChain
  split
  ·split
   ·split
    ·exact ih _ _
    ·exact (h _).err ‹_›
   ·exact .ok _
  ·exact .ok _
theorem pWith_e (A:Alg) (lv:Nat) (part:Bs→R A.S) (h:∀ l,E3 (part l)) (l:Bs):E3 (pWith A lv part l):=by
 unfold pWith; split
 ·exact pChain_e A lv part h _ _ _
 ·exact (h _).err ‹_›
theorem pSum_e (A:Alg) (u:Bs→R A.S) (h:∀ l,E3 (u l)) (l:Bs):E3 (pSum A u l):=pWith_e A 0 _ (fun l=>pWith_e A 1 u h l) l
theorem pUnary_e (A:Alg):∀ n o l,E3 (pUnary A n o l):=by
 intro n
 induction n with
 | zero=>intro o l; exact .bad _
 | succ n ih =>
  intro o l
  unfold pUnary
  split
  ·split
   ·exact .ok _
   ·exact .bad _
  ·split
   ·split
    ·exact .ok _
    ·exact (pName_e _).err ‹_›
   ·split
    ·split
     ·split
      ·exact .ok _
      ·exact (ih _ _).err ‹_›
     ·exact (enter_e _ _ _).err ‹_›
    ·split
     ·split
      ·split
       ·exact .ok _
       ·exact (take_e _ _).err ‹_›
      ·exact (pSum_e A _ (ih _) _).err ‹_›
     ·exact (enter_e _ _ _).err ‹_›
theorem pS_e (A:Alg) (o:Nat) (l:Bs):E3 (pS A o l):=pSum_e A _ (pUnary_e A _ _) l
theorem pCond_e (A:Alg) (o:Nat) (l:Bs):E3 (pCond A o l):=by
 unfold pCond; split
 ·split
  ·split
   ·exact .ok _
   ·exact (pS_e _ _ _).err ‹_›
  ·exact .bad _
 ·exact (pS_e _ _ _).err ‹_›
theorem pMany_e (A:Alg) (st:Bs→R A.T) (h:∀ l,E3 (st l)):∀ m acc l,E3 (pMany A st m acc l):=by
 intro m
 induction m with
 | zero=>intro x l; exact .ok _
 | succ m ih =>
  intro x l
  unfold pMany
  split
  ·split
   ·exact ih _ _
   ·exact (h _).err ‹_›
  ·exact .ok _
theorem pBlock_e (A:Alg) (st:Bs→R A.T) (h:∀ l,E3 (st l)) (o:Nat) (l:Bs):E3 (pBlock A st o l):=by
 unfold pBlock; split
 ·split
  ·split
   ·exact .ok _
   ·exact (take_e _ _).err ‹_›
  ·exact (pMany_e A st h _ _ _).err ‹_›
 ·exact (enter_e _ _ _).err ‹_›
theorem pAssign_e (A:Alg) (o:Nat) (l:Bs):E3 (pAssign A o l):=by
 unfold pAssign; split
 ·split
  ·split
   ·split
    ·exact .ok _
    ·exact (take_e _ _).err ‹_›
   ·exact (pS_e _ _ _).err ‹_›
  ·exact (take_e _ _).err ‹_›
 ·exact (pName_e _).err ‹_›
theorem pRead_e (A:Alg) (l:Bs):E3 (pRead A l):=by
 unfold pRead; split
 ·split
  ·exact .ok _
  ·exact (take_e _ _).err ‹_›
 ·exact (pName_e _).err ‹_›
theorem pAssert_e (A:Alg) (o:Nat) (l:Bs):E3 (pAssert A o l):=by
 unfold pAssert; split
 ·split
  ·exact .ok _
  ·exact (take_e _ _).err ‹_›
 ·exact (pCond_e _ _ _).err ‹_›
theorem pIf_e (A:Alg) (blk:Bs→R (List A.T)) (h:∀ l,E3 (blk l)) (o:Nat) (l:Bs):E3 (pIf A blk o l):=by
 unfold pIf; split
 ·split
  ·split
   ·split
    ·exact .ok _
    ·exact (h _).err ‹_›
   ·exact .ok _
  ·exact (h _).err ‹_›
 ·exact (pCond_e _ _ _).err ‹_›
theorem pWhile_e (A:Alg) (blk:Bs→R (List A.T)) (h:∀ l,E3 (blk l)) (o:Nat) (l:Bs):E3 (pWhile A blk o l):=by
 unfold pWhile; split
 ·split
  ·exact .ok _
  ·exact (h _).err ‹_›
 ·exact (pCond_e _ _ _).err ‹_›
theorem pStmt_e (A:Alg):∀ n o l,E3 (pStmt A n o l):=by
 intro n
 induction n with
 | zero=>intro o l; exact .bad _
 | succ n ih =>
  intro o l
  unfold pStmt
  split
  ·exact pRead_e A l
  ·split
   ·exact pAssert_e A o l
   ·split
    ·exact pIf_e A _ (fun l=>pBlock_e A _ (ih _) o l) o l
    ·split
     ·exact pWhile_e A _ (fun l=>pBlock_e A _ (ih _) o l) o l
     ·exact pAssign_e A o l
theorem parse_e (A:Alg) (src:Bs):E3 (parse A src):=by
 unfold parse
 split
 ·intro e h; cases h; simp
 ·have hp:E3 (pProg A (skip src)):=by
   unfold pProg; split
   ·split
    ·exact .ok _
    ·exact .bad _
   ·exact (pMany_e A _ (pStmt_e A _ _) _ _ _).err ‹_›
  split
  ·exact .ok _
  ·next e left hq=>intro e h; cases h; exact fun k=>hp _ hq k
end Sp
end Go.Proofs.YtiopfihjmkfdmaaGreatDoor
