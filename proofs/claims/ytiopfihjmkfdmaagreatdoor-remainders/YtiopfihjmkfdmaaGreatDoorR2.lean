import Derived.KernelRfl
import Derived.Test.YtiopfihjmkfdmaaGreatDoorRows
import Derived.WalkKit
import Derived.WalkLawsBesides
import Derived.WalkSpells
namespace Go.Proofs.YtiopfihjmkfdmaaGreatDoor
open Option renaming some→Y,none→M
open Go.Obj renaming cells→L
open Go.Value renaming bool→U,int→I,iface→σ,tuple→φ,agg→J,slice→Z
open Go.Ending renaming returned→υ
open Go.IntKind renaming i16→ψ,i64→O
open Go.Proofs.Tryz
open Go.RowKit
set_option maxRecDepth 100000
set_option maxHeartbeats 16000000
namespace Sp
abbrev Bs:=List UInt8
def isLet(c:UInt8):Bool:=decide (97<=c.toNat) && decide (c.toNat<=122)
def bx(c:UInt8):Bool:=decide (48<=c.toNat) && decide (c.toNat<=57)
def mV(c:UInt8):Bool:=c == 32 || c == 10
def bO(p:UInt8->Bool)(l:Bs):Nat:=(l.takeWhile p).length
def uQ:Bs:=[60,62,61,33]
def pG:Bs:=[60,62,61,43,45,42,47,37,40,41,123,125,59]
def bG:Bs->Nat
 | []=>0
 | c :: r=>if r.head?=Y 61/\c∈uQ then 2 else if c∈pG then 1 else 0
def aC:Bs->Nat
 | []=>1
 | c :: r=>if isLet c then 2 else if bx c then 3 else if 0<bG (c :: r) then 4 else 0
def aZ:Bs->Nat
 | []=>0
 | c :: r=>if isLet c then bO isLet (c :: r) else if bx c then bO bx (c :: r) else bG (c :: r)
def skip(l:Bs):Bs:=l.dropWhile mV
def tok(l:Bs):Bs:=l.take (aZ l)
def next(l:Bs):Bs:=skip (l.drop (aZ l))
abbrev R(α:Type):=Except (Nat × Nat) (α × Bs)
def bad{α:Type}(e:Nat)(l:Bs):Except (Nat × Nat) α:=.error (e,l.length)
def take(t:Bs)(l:Bs):Except (Nat × Nat) Bs:=if tok l=t then .ok (next l) else bad 2 l
def enter(t:Bs)(o:Nat)(l:Bs):Except (Nat × Nat) Bs:=if tok l=t then(if o=12 then bad 3 l else .ok (next l)) else bad 2 l
structure eR where
 S:Type
 num:Nat->S
 name:Nat->S
 neg:S->S
 bin:Nat->S->S->S
 T:Type
 assign:Nat->S->T
 read:Nat->T
 assert:Nat->S->S->T
 ite:Nat->S->S->List T->Option (List T)->T
 loop:Nat->S->S->List T->T
def ep(t:Bs):Option Nat :=
 if t=[43] then Y 0 else if t=[45] then Y 1 else if t=[42] then Y 2 else if t=[47] then Y 3 else if t=[37] then Y 4 else M
def cK(k:Nat):Nat:=if k<=1 then 0 else 1
def ea(t:Bs):Option Nat :=
 if t=[60] then Y 0 else if t=[60,61] then Y 1 else if t=[61,61] then Y 2 else if t=[33,61] then Y 3 else if t=[62,61] then Y 4 else if t=[62] then Y 5 else M
def bj(t:Bs):Nat:=t.foldl (fun a c=>a*10+(c.toNat - 48)) 0
def gA(t:Bs):Option Nat:=if 1<t.length/\t.head?=Y 48 then M else if bj t<=32767 then Y (bj t) else M
def aQ(l:Bs):Option Nat:=match tok l with
 | [c]=>if aC l=2/\c.toNat<105 then Y (c.toNat - 97) else M
 | _=>M
def dG(l:Bs):R Nat:=match aQ l with
 | some k=>.ok (k,next l)
 | none=>bad 2 l
def bH(A:eR)(lv:Nat)(part:Bs->R A.S):Nat->A.S->Bs->R A.S
 | 0,x,l=>.ok (x,l)
 | m+1,x,l=>match ep (tok l) with
  | some k=>if cK k=lv then(match part (next l) with
    | .ok (y,l')=>bH A lv part m (A.bin k x y) l'
    | .error e=>.error e) else .ok (x,l)
  | none=>.ok (x,l)
def bP(A:eR)(lv:Nat)(part:Bs->R A.S)(l:Bs):R A.S:=match part l with
 | .ok (x,l')=>bH A lv part (l'.length+1) x l'
 | .error e=>.error e
def oG(A:eR)(u:Bs->R A.S)(l:Bs):R A.S:=bP A 1 u l
def og(A:eR)(u:Bs->R A.S)(l:Bs):R A.S:=bP A 0 (oG A u) l
def bk(A:eR):Nat->Nat->Bs->R A.S
 | 0,_,l=>bad 2 l
 | n+1,o,l =>
  if aC l=3 then(match gA (tok l) with
   | some v=>.ok (A.num v,next l)
   | none=>bad 2 l)
  else if aC l=2 then(match dG l with
   | .ok (k,l1)=>.ok (A.name k,l1)
   | .error e=>.error e)
  else if tok l=[45] then(match enter [45] o l with
   | .ok l1=>(match bk A n (o+1) l1 with
    | .ok (x,l2)=>.ok (A.neg x,l2)
    | .error e=>.error e)
   | .error e=>.error e)
  else(match enter [40] o l with
   | .ok l1=>(match og A (bk A n (o+1)) l1 with
    | .ok (x,l2)=>(match take [41] l2 with
     | .ok l3=>.ok (x,l3)
     | .error e=>.error e)
    | .error e=>.error e)
   | .error e=>.error e)
def pS(A:eR)(o:Nat)(l:Bs):R A.S:=og A (bk A (l.length+1) o) l
def bh(A:eR)(o:Nat)(l:Bs):R (Nat × A.S × A.S):=match pS A o l with
 | .ok (x,l1)=>(match ea (tok l1) with
  | some k=>(match pS A o (next l1) with
   | .ok (y,l2)=>.ok ((k,x,y),l2)
   | .error e=>.error e)
  | none=>bad 2 l1)
 | .error e=>.error e
def cX(A:eR)(st:Bs->R A.T):Nat->List A.T->Bs->R (List A.T)
 | 0,acc,l=>.ok (acc,l)
 | m+1,acc,l=>if aC l=2 then(match st l with
     | .ok (x,l1)=>cX A st m (acc ++ [x]) l1
     | .error e=>.error e) else .ok (acc,l)
def aO(A:eR)(st:Bs->R A.T)(o:Nat)(l:Bs):R (List A.T):=match enter [123] o l with
 | .ok l1=>(match cX A st (l1.length+1) [] l1 with
  | .ok (xs,l2)=>(match take [125] l2 with
   | .ok l3=>.ok (xs,l3)
   | .error e=>.error e)
  | .error e=>.error e)
 | .error e=>.error e
def uj:Bs:=[114,101,97,100]
def kW:Bs:=[97,115,115,101,114,116]
def QG:Bs:=[105,102]
def oH:Bs:=[119,104,105,108,101]
def kt:Bs:=[101,108,115,101]
def cu(A:eR)(o:Nat)(l:Bs):R A.T:=match dG l with
 | .ok (k,l1)=>(match take [61] l1 with
  | .ok l2=>(match pS A o l2 with
   | .ok (x,l3)=>(match take [59] l3 with
    | .ok l4=>.ok (A.assign k x,l4)
    | .error e=>.error e)
   | .error e=>.error e)
  | .error e=>.error e)
 | .error e=>.error e
def gG(A:eR)(l:Bs):R A.T:=match dG (next l) with
 | .ok (k,l1)=>(match take [59] l1 with
  | .ok l2=>.ok (A.read k,l2)
  | .error e=>.error e)
 | .error e=>.error e
def cY(A:eR)(o:Nat)(l:Bs):R A.T:=match bh A o (next l) with
 | .ok ((k,x,y),l1)=>(match take [59] l1 with
  | .ok l2=>.ok (A.assert k x y,l2)
  | .error e=>.error e)
 | .error e=>.error e
def qR(A:eR)(aT:Bs->R (List A.T))(o:Nat)(l:Bs):R A.T:=match bh A o (next l) with
 | .ok ((k,x,y),l1)=>(match aT l1 with
  | .ok (xs,l2)=>if tok l2=kt then(match aT (next l2) with
    | .ok (ys,l3)=>.ok (A.ite k x y xs (Y ys),l3)
    | .error e=>.error e) else .ok (A.ite k x y xs M,l2)
  | .error e=>.error e)
 | .error e=>.error e
def eA(A:eR)(aT:Bs->R (List A.T))(o:Nat)(l:Bs):R A.T:=match bh A o (next l) with
 | .ok ((k,x,y),l1)=>(match aT l1 with
  | .ok (xs,l2)=>.ok (A.loop k x y xs,l2)
  | .error e=>.error e)
 | .error e=>.error e
def bN(A:eR):Nat->Nat->Bs->R A.T
 | 0,_,l=>bad 2 l
 | n+1,o,l =>
  if tok l=uj then gG A l
  else if tok l=kW then cY A o l
  else if tok l=QG then qR A (fun l=>aO A (bN A n (o+1)) o l) o l
  else if tok l=oH then eA A (fun l=>aO A (bN A n (o+1)) o l) o l
  else cu A o l
def pO(A:eR)(l:Bs):Except (Nat × Nat) (List A.T):=match cX A (bN A (l.length+1) 0) (l.length+1) [] l with
 | .ok (xs,l1)=>if l1=[] then .ok xs else bad 2 l1
 | .error e=>.error e
def parse(A:eR)(src:Bs):Except (Nat × Nat) (List A.T) :=
 if 400<src.length then .error (1,0) else match pO A (skip src) with
  | .ok xs=>.ok xs
  | .error (e,left)=>.error (e,src.length - left)
def bo(k:Nat):Bs:=match k with
 | 0=>[43] | 1=>[45] | 2=>[42] | 3=>[47] | _=>[37]
def aL(k:Nat):Bs:=match k with
 | 0=>[60] | 1=>[60,61] | 2=>[61,61] | 3=>[33,61] | 4=>[62,61] | _=>[62]
def part(x:Nat × Bs)(least:Nat):Bs:=if x.1<least then [40] ++ x.2 ++ [41] else x.2
def GP:Nat->Nat->Bs
 | 0,_=>[]
 | f+1,n=>if n<10 then [UInt8.ofNat (48+n)] else GP f (n / 10) ++ [UInt8.ofNat (48+n % 10)]
def digits(n:Nat):Bs:=GP 20 n
def letter(k:Nat):Bs:=[UInt8.ofNat (97+k)]
def pad(d:Nat):Bs:=List.replicate (2*d) 32
def wC(k:Nat)(x y:Nat × Bs):Bs:=x.2 ++ [32] ++ aL k ++ [32] ++ y.2
def lines(d:Nat)(xs:List (Nat->Bs)):Bs:=(xs.map fun x=>x d).flatten
def Pr:eR where
 S:=Nat × Bs
 num n:=(2,digits n)
 name k:=(2,letter k)
 neg x:=(2,[45] ++ part x 2)
 bin k x y:=(cK k,part x (cK k) ++ [32] ++ bo k ++ [32] ++ part y (cK k+1))
 T:=Nat->Bs
 assign k x:=fun d=>pad d ++ letter k ++ [32,61,32] ++ x.2 ++ [59,10]
 read k:=fun d=>pad d ++ [114,101,97,100,32] ++ letter k ++ [59,10]
 assert k x y:=fun d=>pad d ++ [97,115,115,101,114,116,32] ++ wC k x y ++ [59,10]
 ite k x y xs ys:=fun d=>pad d ++ [105,102,32] ++ wC k x y ++ [32,123,10] ++ lines (d+1) xs ++ (match ys with
  | some ys=>pad d ++ [125,32,101,108,115,101,32,123,10] ++ lines (d+1) ys
  | none=>[]) ++ pad d ++ [125,10]
 loop k x y xs:=fun d=>pad d ++ [119,104,105,108,101,32] ++ wC k x y ++ [32,123,10] ++ lines (d+1) xs ++ pad d ++ [125,10]
def print(src:Bs):Except (Nat × Nat) Bs:=match parse Pr src with
 | .ok xs=>.ok (lines 0 xs)
 | .error e=>.error e
end Sp
section
variable{p:Addr}
variable{b k B:Nat}
variable{c:Array Value}
variable{t:TypeId}
variable{f:Nat × Nat}
variable{w w1 w2 w3 w':World}
variable{v u:Value}
variable{o o':Obj}
abbrev Wd:=World
abbrev ω(w w':World):Prop:=Below w.heap.size w w'
theorem hid{p:Prop}(h:p):Hid p:=h
abbrev Bk(w:World)(k:Nat)(c:Array Value)(t:TypeId):Prop:=w.heap[k]?=Y (L c t)
theorem eK{a b:Bool}(h:a=b):Ending.returned (U a)=υ (U b):=by rw[h]
theorem dk{k:IntKind}{a b:Int}(h:a=b):Ending.returned (I k a)=υ (I k b):=by rw[h]
def om(o:Option Obj):Prop:=∃c f,o=Y (L c 226 f)
theorem eW(h:t≠226):¬ om (Y (L c t f)):=by
 rintro⟨c',f',e⟩;injection e with e
 injection e with _ e2 _
 exact h e2
theorem tW{es:Array MapEntry}{c:Nat}:¬ om (Y (.map es c)):=by
 rintro⟨c',f',e⟩;injection e with e
 cases e
theorem ld(h:w.heap[k]?=Y (L c t f))(ht:t≠226):¬ om w.heap[k]?:=by rw[h];exact eW ht
structure Ext(b:Nat)(w w':World):Prop where
 os:w'.os=w.os
 tape:w'.tape=w.tape
 output:w'.output=w.output
 size:w.heap.size<=w'.heap.size
 block:∀k,k<w.heap.size->k≠b->(b<k->¬ om w.heap[k]?)->w'.heap[k]?=w.heap[k]?
theorem Ext.refl(b:Nat)(w:World):Ext b w w:=⟨rfl,rfl,rfl,Nat.le_refl _,fun _ _ _ _=>rfl⟩
theorem Ext.trans(h:Ext b w1 w2)(k:Ext b w2 w3):Ext b w1 w3 :=
 ⟨k.os.trans h.os,k.tape.trans h.tape,k.output.trans h.output,Nat.le_trans h.size k.size,fun i hi hb hn=>by have e:=h.block i hi hb hn;exact(k.block i (Nat.lt_of_lt_of_le hi h.size) hb (fun h'=>by rw[e];exact hn h')).trans e⟩
theorem Ext.drew(h:Ext b w w'):Ext b w w'.drew:=⟨h.os,h.tape,h.output,h.size,h.block⟩
theorem Ext.alloc(h:Ext b w w')(o:Obj):Ext b w (w'.alloc o) :=
 ⟨h.os,h.tape,h.output,by have:=h.size;simp;omega,fun k hk hb hn=>by have:=h.size;rw[Below.heap_alloc _ _ _ (by omega)];exact h.block k hk hb hn⟩
theorem Ext.setCell(h:Ext b w w')(hp:p.block=b∨w.heap.size<=p.block)(u:Value):Ext b w (w'.setCell p u) :=
 ⟨h.os,h.tape,h.output,by have:=h.size;simp[World.setCell];omega,fun k hk hb hn=>by rw[Below.heap_setCell _ _ _ _ (by rcases hp with rfl | hp<;>omega)];exact h.block k hk hb hn⟩
theorem Ext.aB(h:ω w w'):Ext b w w' :=
 ⟨h.os,h.tape,h.output,h.size,fun k hk _ _=>h.block k hk⟩
theorem Ext.below(h:Ext b w w')(hB:B<=b)(hw:B<=w.heap.size):Below B w w' :=
 ⟨h.os,h.tape,h.output,h.size,fun k hk=>h.block k (by omega) (by omega) (fun h'=>by omega)⟩
theorem cell_of(h:w.heap[b]?=Y (L c t f))(i:Nat)(hv:c[i]?=Y v):w.cell? ⟨b,i,M⟩=Y v:=by simp[World.cell?,h,hv]
theorem aw(h:w.heap[b]?=Y (L c t (0,0)))(i:Nat):w.frozen? ⟨b,i,M⟩=false:=by simp[World.frozen?,h]
theorem ah(h:w.heap[b]?=Y (L c t f))(i:Nat)(v:Value):(w.setCell ⟨b,i,M⟩ v).heap[b]?=Y (L (c.setIfInBounds i v) t f):=by simp[World.setCell,Array.getElem?_modify,h]
theorem ad(h:w.heap[b]?=Y o):b<w.heap.size:=by have:=Array.getElem?_eq_some_iff.1 h;exact this.1
theorem OM(h:om (w.setCell p u).heap[k]?):om w.heap[k]?:=by
 by_cases e:k=p.block
 ·obtain⟨c,f,h⟩:=h
  rw[World.setCell]at h;subst e;simp only[Array.getElem?_modify,if_true]at h;cases hh:w.heap[p.block]? with
  | none=>rw[hh]at h;cases h
  | some o =>
   rw[hh]at h;cases o with
   | cells c0 t0 f0 =>simp at h;exact⟨c0,f0,by rw[h.2.1]⟩
   | _=>simp at h
 ·rwa [Below.heap_setCell _ _ _ _ e]at h
theorem Fx(h:¬ om w.heap[k]?):¬ om (w.setCell p u).heap[k]?:=fun h'=>h (OM h')
theorem Ext.bF(h:Ext b w w')(hk:w.heap[k]?=Y o)(hb:k≠b)(hn:¬ om (Y o)):w'.heap[k]?=Y o:=by rw[h.block k (ad hk) hb (fun _=>by rw[hk];exact hn)];exact hk
theorem heap_alloc_old(h:w.heap[b]?=Y o):(w.alloc o').heap[b]?=Y o:=by rw[Below.heap_alloc _ _ _ (ad h)];exact h
theorem heap_alloc_new(w:World)(o:Obj):(w.alloc o).heap[w.heap.size]?=Y o:=by show(w.heap.push o)[w.heap.size]?=Y o;simp
end
namespace Sp
theorem jJ(c:UInt8)(r:Bs):bG (c :: r)=if r.head?=Y 61/\c∈uQ then 2 else if c∈pG then 1 else 0:=rfl
theorem eb(c:UInt8)(r:Bs):aZ (c :: r)=if isLet c then bO isLet (c :: r) else if bx c then bO bx (c :: r) else bG (c :: r):=rfl
theorem bU(c:UInt8)(r:Bs):aC (c :: r)=if isLet c then 2 else if bx c then 3 else if 0<bG (c :: r) then 4 else 0:=rfl
theorem wZ(p:UInt8->Bool)(l:Bs):bO p l<=l.length:=by unfold bO;exact(List.takeWhile_prefix p).length_le
theorem dX(p:UInt8->Bool)(c:UInt8)(r:Bs):bO p (c :: r)=if p c then bO p r+1 else 0:=by unfold bO;rw[List.takeWhile_cons];split<;>simp
theorem ER(l:Bs):bG l<=l.length:=by
 cases l with
 | nil=>simp[bG]
 | cons c r =>
  rw[jJ];split
  ·rename_i h
   cases r with
   | nil=>simp at h
   | cons d r=>simp
  ·split<;>simp
theorem fD(l:Bs):aZ l<=l.length:=by
 cases l with
 | nil=>simp[aZ]
 | cons c r =>
  rw[eb];split
  ·exact wZ _ _
  ·split
   ·exact wZ _ _
   ·exact ER _
theorem ly(l:Bs):skip l <:+ l:=List.dropWhile_suffix _
theorem oK(l:Bs):next l <:+ l:=(ly _).trans (List.drop_suffix _ _)
theorem qY(l:Bs):(skip l).length<=l.length:=(ly l).length_le
theorem bZ(l:Bs):(next l).length<=l.length:=(oK l).length_le
theorem dP{l:Bs}(h:aC l=2∨aC l=3∨aC l=4):0<aZ l:=by
 cases l with
 | nil=>simp[aC]at h
 | cons c r =>
  rw[bU]at h;rw[eb];by_cases hl:isLet c=true
  ·simp[hl,dX]
  ·by_cases hd:bx c=true
   ·simp[hl,hd,dX]
   ·by_cases hs:0<bG (c :: r)
    ·simp[hl,hd,hs]
    ·simp[hl,hd,hs]at h
theorem eD(l:Bs):(tok l).length=aZ l:=by unfold tok;rw[List.length_take];have:=fD l;omega
theorem gm{l:Bs}(h:0<aZ l):(next l).length<l.length:=by have h1:(next l).length<=(l.drop (aZ l)).length:=qY _;have h2:=fD l;rw[List.length_drop]at h1;omega
theorem aG{l t:Bs}(h:tok l=t)(ht:t≠[]):(next l).length<l.length:=by apply gm;rw[<-eD,h];exact List.length_pos_iff.2 ht
end Sp
theorem C9{w w':World}{o:Obj}{row:Option Nat}(hg:(w.alloc o).grownBy w' row):w.grownBy w' row :=
 ⟨hg.os,hg.tape,hg.output,by have:=hg.size;simp at this;omega,fun k hk hr=>by rw[hg.block k (by simp;omega) hr];exact Below.heap_alloc _ _ _ hk⟩
namespace Sp
section
variable{α β:Type}
def E3(r:Except (Nat × Nat) α):Prop:=∀e,r=.error e->e.1≠0
theorem E3.ok(x:α):E3 (.ok x):=fun _ h=>by cases h
theorem E3.err{r:Except (Nat × Nat) α}{e:Nat × Nat}(h:E3 r)(hr:r=.error e):E3 (.error e:Except (Nat × Nat) β):=fun _ k=>by cases k;exact h _ hr
theorem E3.bad(l:Bs):E3 (Sp.bad 2 l:Except (Nat × Nat) α):=fun _ h=>by cases h;simp
theorem E3.Zu(l:Bs):E3 (Sp.bad 3 l:Except (Nat × Nat) α):=fun _ h=>by cases h;simp
theorem sO(t l:Bs):E3 (take t l):=by
 unfold take;split
 ·exact .ok _
 ·exact .bad _
theorem Bq(t:Bs)(o:Nat)(l:Bs):E3 (enter t o l):=by
 unfold enter;split
 ·split
  ·exact .Zu _
  ·exact .ok _
 ·exact .bad _
theorem Az(l:Bs):E3 (dG l):=by
 unfold dG;split
 ·exact .ok _
 ·exact .bad _
theorem Lm(A:eR)(lv:Nat)(part:Bs->R A.S)(h:∀l,E3 (part l)):∀m x l,E3 (bH A lv part m x l):=by
 intro m
 induction m with
 | zero=>intro x l;exact .ok _
 | succ m ih =>
  intro x l;unfold bH;split
  ·split
   ·split
    ·exact ih _ _
    ·exact(h _).err ‹_›
   ·exact .ok _
  ·exact .ok _
theorem G8(A:eR)(lv:Nat)(part:Bs->R A.S)(h:∀l,E3 (part l))(l:Bs):E3 (bP A lv part l):=by
 unfold bP;split
 ·exact Lm A lv part h _ _ _
 ·exact(h _).err ‹_›
theorem LI(A:eR)(u:Bs->R A.S)(h:∀l,E3 (u l))(l:Bs):E3 (og A u l):=G8 A 0 _ (fun l=>G8 A 1 u h l) l
theorem Li(A:eR):∀n o l,E3 (bk A n o l):=by
 intro n
 induction n with
 | zero=>intro o l;exact .bad _
 | succ n ih =>
  intro o l;unfold bk;split
  ·split
   ·exact .ok _
   ·exact .bad _
  ·split
   ·split
    ·exact .ok _
    ·exact(Az _).err ‹_›
   ·split
    ·split
     ·split
      ·exact .ok _
      ·exact(ih _ _).err ‹_›
     ·exact(Bq _ _ _).err ‹_›
    ·split
     ·split
      ·split
       ·exact .ok _
       ·exact(sO _ _).err ‹_›
      ·exact(LI A _ (ih _) _).err ‹_›
     ·exact(Bq _ _ _).err ‹_›
theorem SB(A:eR)(o:Nat)(l:Bs):E3 (pS A o l):=LI A _ (Li A _ _) l
theorem AA(A:eR)(o:Nat)(l:Bs):E3 (bh A o l):=by
 unfold bh;split
 ·split
  ·split
   ·exact .ok _
   ·exact(SB _ _ _).err ‹_›
  ·exact .bad _
 ·exact(SB _ _ _).err ‹_›
theorem Hw(A:eR)(st:Bs->R A.T)(h:∀l,E3 (st l)):∀m acc l,E3 (cX A st m acc l):=by
 intro m
 induction m with
 | zero=>intro x l;exact .ok _
 | succ m ih =>
  intro x l;unfold cX;split
  ·split
   ·exact ih _ _
   ·exact(h _).err ‹_›
  ·exact .ok _
theorem Ds(A:eR)(st:Bs->R A.T)(h:∀l,E3 (st l))(o:Nat)(l:Bs):E3 (aO A st o l):=by
 unfold aO;split
 ·split
  ·split
   ·exact .ok _
   ·exact(sO _ _).err ‹_›
  ·exact(Hw A st h _ _ _).err ‹_›
 ·exact(Bq _ _ _).err ‹_›
theorem Je(A:eR)(o:Nat)(l:Bs):E3 (cu A o l):=by
 unfold cu;split
 ·split
  ·split
   ·split
    ·exact .ok _
    ·exact(sO _ _).err ‹_›
   ·exact(SB _ _ _).err ‹_›
  ·exact(sO _ _).err ‹_›
 ·exact(Az _).err ‹_›
theorem PL(A:eR)(l:Bs):E3 (gG A l):=by
 unfold gG;split
 ·split
  ·exact .ok _
  ·exact(sO _ _).err ‹_›
 ·exact(Az _).err ‹_›
theorem Jv(A:eR)(o:Nat)(l:Bs):E3 (cY A o l):=by
 unfold cY;split
 ·split
  ·exact .ok _
  ·exact(sO _ _).err ‹_›
 ·exact(AA _ _ _).err ‹_›
theorem Vs(A:eR)(aT:Bs->R (List A.T))(h:∀l,E3 (aT l))(o:Nat)(l:Bs):E3 (qR A aT o l):=by
 unfold qR;split
 ·split
  ·split
   ·split
    ·exact .ok _
    ·exact(h _).err ‹_›
   ·exact .ok _
  ·exact(h _).err ‹_›
 ·exact(AA _ _ _).err ‹_›
theorem LS(A:eR)(aT:Bs->R (List A.T))(h:∀l,E3 (aT l))(o:Nat)(l:Bs):E3 (eA A aT o l):=by
 unfold eA;split
 ·split
  ·exact .ok _
  ·exact(h _).err ‹_›
 ·exact(AA _ _ _).err ‹_›
theorem P1(A:eR):∀n o l,E3 (bN A n o l):=by
 intro n
 induction n with
 | zero=>intro o l;exact .bad _
 | succ n ih =>
  intro o l;unfold bN;split
  ·exact PL A l
  ·split
   ·exact Jv A o l
   ·split
    ·exact Vs A _ (fun l=>Ds A _ (ih _) o l) o l
    ·split
     ·exact LS A _ (fun l=>Ds A _ (ih _) o l) o l
     ·exact Je A o l
theorem PS(A:eR)(src:Bs):E3 (parse A src):=by
 unfold parse;split
 ·intro e h;cases h;simp
 ·have hp:E3 (pO A (skip src)):=by
   unfold pO;split
   ·split
    ·exact .ok _
    ·exact .bad _
   ·exact(Hw A _ (P1 A _ _) _ _ _).err ‹_›
  split
  ·exact .ok _
  ·next e left hq=>intro e h;cases h;exact fun k=>hp _ hq k
theorem Px(src:Bs):E3 (print src):=by
 unfold print;split
 ·exact .ok _
 ·exact(PS Pr src).err ‹_›
end
end Sp
theorem FW(x:Value)(w:World):(Instr.typeAssert (σ 226 x) 277 226 true).run prog w=.ok (φ #[x,U true]) w:=by kernel_rfl
theorem CY(x:Value)(w:World):(Instr.typeAssert (σ 275 x) 277 226 true).run prog w=.ok (φ #[I ψ 0,U false]) w:=by kernel_rfl
theorem nk(x:Value)(w:World):(Instr.typeAssert (σ 275 x) 277 275 true).run prog w=.ok (φ #[x,U true]) w:=by kernel_rfl
theorem FU(x:Value)(w:World):(Instr.typeAssert (σ 330 x) 277 226 true).run prog w=.ok (φ #[I ψ 0,U false]) w:=by kernel_rfl
theorem tQ(x:Value)(w:World):(Instr.typeAssert (σ 330 x) 277 275 true).run prog w=.ok (φ #[I O 0,U false]) w:=by kernel_rfl
theorem Ep(x:Value)(w:World):(Instr.typeAssert (σ 330 x) 277 330 true).run prog w=.ok (φ #[x,U true]) w:=by kernel_rfl
theorem F8(x:Value)(w:World):(Instr.typeAssert (σ 334 x) 277 226 true).run prog w=.ok (φ #[I ψ 0,U false]) w:=by kernel_rfl
theorem oY(x:Value)(w:World):(Instr.typeAssert (σ 334 x) 277 275 true).run prog w=.ok (φ #[I O 0,U false]) w:=by kernel_rfl
theorem FF(x:Value)(w:World):(Instr.typeAssert (σ 334 x) 277 330 true).run prog w=.ok (φ #[J #[.nilIface],U false]) w:=by kernel_rfl
theorem Fu(x:Value)(w:World):(Instr.typeAssert (σ 334 x) 277 334 true).run prog w=.ok (φ #[x,U true]) w:=by kernel_rfl
theorem R7(x:Value)(w:World):(Instr.typeAssert (σ 279 x) 234 279 true).run prog w=.ok (φ #[x,U true]) w:=by kernel_rfl
theorem Sr(x:Value)(w:World):(Instr.typeAssert (σ 283 x) 234 279 true).run prog w=.ok (φ #[J #[I O 0,I O 0,.nilIface],U false]) w:=by kernel_rfl
theorem SM(x:Value)(w:World):(Instr.typeAssert (σ 283 x) 234 283 true).run prog w=.ok (φ #[x,U true]) w:=by kernel_rfl
theorem S7(x:Value)(w:World):(Instr.typeAssert (σ 287 x) 234 279 true).run prog w=.ok (φ #[J #[I O 0,I O 0,.nilIface],U false]) w:=by kernel_rfl
theorem RI(x:Value)(w:World):(Instr.typeAssert (σ 287 x) 234 283 true).run prog w=.ok (φ #[J #[I O 0,I O 0],U false]) w:=by kernel_rfl
theorem SG(x:Value)(w:World):(Instr.typeAssert (σ 287 x) 234 287 true).run prog w=.ok (φ #[x,U true]) w:=by kernel_rfl
theorem SK(x:Value)(w:World):(Instr.typeAssert (σ 290 x) 234 279 true).run prog w=.ok (φ #[J #[I O 0,I O 0,.nilIface],U false]) w:=by kernel_rfl
theorem RJ(x:Value)(w:World):(Instr.typeAssert (σ 290 x) 234 283 true).run prog w=.ok (φ #[J #[I O 0,I O 0],U false]) w:=by kernel_rfl
theorem S2(x:Value)(w:World):(Instr.typeAssert (σ 290 x) 234 287 true).run prog w=.ok (φ #[J #[I O 0,I O 0,I O 0,.nilIface,.nilIface],U false]) w:=by kernel_rfl
theorem SZ(x:Value)(w:World):(Instr.typeAssert (σ 290 x) 234 290 true).run prog w=.ok (φ #[x,U true]) w:=by kernel_rfl
theorem SR(x:Value)(w:World):(Instr.typeAssert (σ 293 x) 234 279 true).run prog w=.ok (φ #[J #[I O 0,I O 0,.nilIface],U false]) w:=by kernel_rfl
theorem R4(x:Value)(w:World):(Instr.typeAssert (σ 293 x) 234 283 true).run prog w=.ok (φ #[J #[I O 0,I O 0],U false]) w:=by kernel_rfl
theorem RP(x:Value)(w:World):(Instr.typeAssert (σ 293 x) 234 287 true).run prog w=.ok (φ #[J #[I O 0,I O 0,I O 0,.nilIface,.nilIface],U false]) w:=by kernel_rfl
theorem SN(x:Value)(w:World):(Instr.typeAssert (σ 293 x) 234 290 true).run prog w=.ok (φ #[J #[I O 0,I O 0,.nilIface,.nilIface,Z M 0 0,Z M 0 0,U false],U false]) w:=by kernel_rfl
theorem SU(x:Value)(w:World):(Instr.typeAssert (σ 293 x) 234 293 true).run prog w=.ok (φ #[x,U true]) w:=by kernel_rfl
end Go.Proofs.YtiopfihjmkfdmaaGreatDoor
