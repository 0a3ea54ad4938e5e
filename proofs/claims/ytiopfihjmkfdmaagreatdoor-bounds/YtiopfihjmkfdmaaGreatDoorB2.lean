import Derived.KernelRfl
import Derived.Test.YtiopfihjmkfdmaaGreatDoorRows
import Derived.WalkKit
import Derived.WalkLawsBesides
import Derived.WalkSpells
namespace Go.Proofs.YtiopfihjmkfdmaaGreatDoor
open Go.Proofs.Tryz
open Go.RowKit
set_option maxRecDepth 100000
set_option maxHeartbeats 16000000
namespace Sp
abbrev Bs:=List UInt8
def isLet(c:UInt8):Bool:=decide (97<=c.toNat) && decide (c.toNat<=122)
def bq(c:UInt8):Bool:=decide (48<=c.toNat) && decide (c.toNat<=57)
def mC(c:UInt8):Bool:=c == 32 || c == 10
def bN(p:UInt8->Bool)(l:Bs):Nat:=(l.takeWhile p).length
def tX:Bs:=[60,62,61,33]
def pD:Bs:=[60,62,61,43,45,42,47,37,40,41,123,125,59]
def bG:Bs->Nat
 | []=>0
 | c :: r=>if r.head?=some 61/\c∈tX then 2 else if c∈pD then 1 else 0
def aC:Bs->Nat
 | []=>1
 | c :: r=>if isLet c then 2 else if bq c then 3 else if 0<bG (c :: r) then 4 else 0
def bf:Bs->Nat
 | []=>0
 | c :: r=>if isLet c then bN isLet (c :: r) else if bq c then bN bq (c :: r) else bG (c :: r)
def skip(l:Bs):Bs:=l.dropWhile mC
def tok(l:Bs):Bs:=l.take (bf l)
def next(l:Bs):Bs:=skip (l.drop (bf l))
abbrev R(α:Type):=Except (Nat × Nat) (α × Bs)
def bad{α:Type}(e:Nat)(l:Bs):Except (Nat × Nat) α:=.error (e,l.length)
def take(t:Bs)(l:Bs):Except (Nat × Nat) Bs:=if tok l=t then .ok (next l) else bad 2 l
def enter(t:Bs)(o:Nat)(l:Bs):Except (Nat × Nat) Bs:=if tok l=t then(if o=12 then bad 3 l else .ok (next l)) else bad 2 l
structure eW where
 S:Type
 num:Nat->S
 name:Nat->S
 neg:S->S
 bin:Nat->S->S->S
 T:Type
 assign:Nat->S->T
 read:Nat->T
 assert:Nat->S->S->T
 ite:Nat->S->S->List T->Option (List T)->T
 loop:Nat->S->S->List T->T
def eb(t:Bs):Option Nat :=
 if t=[43] then some 0 else if t=[45] then some 1 else if t=[42] then some 2 else if t=[47] then some 3 else if t=[37] then some 4 else none
def cL(k:Nat):Nat:=if k<=1 then 0 else 1
def dQ(t:Bs):Option Nat :=
 if t=[60] then some 0 else if t=[60,61] then some 1 else if t=[61,61] then some 2 else if t=[33,61] then some 3 else if t=[62,61] then some 4 else if t=[62] then some 5 else none
def bk(t:Bs):Nat:=t.foldl (fun a c=>a*10+(c.toNat - 48)) 0
def fE(t:Bs):Option Nat:=if 1<t.length/\t.head?=some 48 then none else if bk t<=32767 then some (bk t) else none
def aR(l:Bs):Option Nat:=match tok l with
 | [c]=>if aC l=2/\c.toNat<105 then some (c.toNat - 97) else none
 | _=>none
def dE(l:Bs):R Nat:=match aR l with
 | some k=>.ok (k,next l)
 | none=>bad 2 l
def bC(A:eW)(lv:Nat)(part:Bs->R A.S):Nat->A.S->Bs->R A.S
 | 0,x,l=>.ok (x,l)
 | m+1,x,l=>match eb (tok l) with
  | some k=>if cL k=lv then(match part (next l) with
    | .ok (y,l')=>bC A lv part m (A.bin k x y) l'
    | .error e=>.error e) else .ok (x,l)
  | none=>.ok (x,l)
def bL(A:eW)(lv:Nat)(part:Bs->R A.S)(l:Bs):R A.S:=match part l with
 | .ok (x,l')=>bC A lv part (l'.length+1) x l'
 | .error e=>.error e
def ov(A:eW)(u:Bs->R A.S)(l:Bs):R A.S:=bL A 1 u l
def mO(A:eW)(u:Bs->R A.S)(l:Bs):R A.S:=bL A 0 (ov A u) l
def bo(A:eW):Nat->Nat->Bs->R A.S
 | 0,_,l=>bad 2 l
 | n+1,o,l =>
  if aC l=3 then(match fE (tok l) with
   | some v=>.ok (A.num v,next l)
   | none=>bad 2 l)
  else if aC l=2 then(match dE l with
   | .ok (k,l1)=>.ok (A.name k,l1)
   | .error e=>.error e)
  else if tok l=[45] then(match enter [45] o l with
   | .ok l1=>(match bo A n (o+1) l1 with
    | .ok (x,l2)=>.ok (A.neg x,l2)
    | .error e=>.error e)
   | .error e=>.error e)
  else(match enter [40] o l with
   | .ok l1=>(match mO A (bo A n (o+1)) l1 with
    | .ok (x,l2)=>(match take [41] l2 with
     | .ok l3=>.ok (x,l3)
     | .error e=>.error e)
    | .error e=>.error e)
   | .error e=>.error e)
def pS(A:eW)(o:Nat)(l:Bs):R A.S:=mO A (bo A (l.length+1) o) l
def bn(A:eW)(o:Nat)(l:Bs):R (Nat × A.S × A.S):=match pS A o l with
 | .ok (x,l1)=>(match dQ (tok l1) with
  | some k=>(match pS A o (next l1) with
   | .ok (y,l2)=>.ok ((k,x,y),l2)
   | .error e=>.error e)
  | none=>bad 2 l1)
 | .error e=>.error e
def cZ(A:eW)(st:Bs->R A.T):Nat->List A.T->Bs->R (List A.T)
 | 0,acc,l=>.ok (acc,l)
 | m+1,acc,l=>if aC l=2 then(match st l with
     | .ok (x,l1)=>cZ A st m (acc ++ [x]) l1
     | .error e=>.error e) else .ok (acc,l)
def aS(A:eW)(st:Bs->R A.T)(o:Nat)(l:Bs):R (List A.T):=match enter [123] o l with
 | .ok l1=>(match cZ A st (l1.length+1) [] l1 with
  | .ok (xs,l2)=>(match take [125] l2 with
   | .ok l3=>.ok (xs,l3)
   | .error e=>.error e)
  | .error e=>.error e)
 | .error e=>.error e
def sP:Bs:=[114,101,97,100]
def kU:Bs:=[97,115,115,101,114,116]
def Qw:Bs:=[105,102]
def oG:Bs:=[119,104,105,108,101]
def j0:Bs:=[101,108,115,101]
def cy(A:eW)(o:Nat)(l:Bs):R A.T:=match dE l with
 | .ok (k,l1)=>(match take [61] l1 with
  | .ok l2=>(match pS A o l2 with
   | .ok (x,l3)=>(match take [59] l3 with
    | .ok l4=>.ok (A.assign k x,l4)
    | .error e=>.error e)
   | .error e=>.error e)
  | .error e=>.error e)
 | .error e=>.error e
def gx(A:eW)(l:Bs):R A.T:=match dE (next l) with
 | .ok (k,l1)=>(match take [59] l1 with
  | .ok l2=>.ok (A.read k,l2)
  | .error e=>.error e)
 | .error e=>.error e
def cY(A:eW)(o:Nat)(l:Bs):R A.T:=match bn A o (next l) with
 | .ok ((k,x,y),l1)=>(match take [59] l1 with
  | .ok l2=>.ok (A.assert k x y,l2)
  | .error e=>.error e)
 | .error e=>.error e
def qF(A:eW)(aV:Bs->R (List A.T))(o:Nat)(l:Bs):R A.T:=match bn A o (next l) with
 | .ok ((k,x,y),l1)=>(match aV l1 with
  | .ok (xs,l2)=>if tok l2=j0 then(match aV (next l2) with
    | .ok (ys,l3)=>.ok (A.ite k x y xs (some ys),l3)
    | .error e=>.error e) else .ok (A.ite k x y xs none,l2)
  | .error e=>.error e)
 | .error e=>.error e
def ef(A:eW)(aV:Bs->R (List A.T))(o:Nat)(l:Bs):R A.T:=match bn A o (next l) with
 | .ok ((k,x,y),l1)=>(match aV l1 with
  | .ok (xs,l2)=>.ok (A.loop k x y xs,l2)
  | .error e=>.error e)
 | .error e=>.error e
def bH(A:eW):Nat->Nat->Bs->R A.T
 | 0,_,l=>bad 2 l
 | n+1,o,l =>
  if tok l=sP then gx A l
  else if tok l=kU then cY A o l
  else if tok l=Qw then qF A (fun l=>aS A (bH A n (o+1)) o l) o l
  else if tok l=oG then ef A (fun l=>aS A (bH A n (o+1)) o l) o l
  else cy A o l
def ou(A:eW)(l:Bs):Except (Nat × Nat) (List A.T):=match cZ A (bH A (l.length+1) 0) (l.length+1) [] l with
 | .ok (xs,l1)=>if l1=[] then .ok xs else bad 2 l1
 | .error e=>.error e
def parse(A:eW)(src:Bs):Except (Nat × Nat) (List A.T) :=
 if 400<src.length then .error (1,0) else match ou A (skip src) with
  | .ok xs=>.ok xs
  | .error (e,left)=>.error (e,src.length - left)
def cD(k:Nat):Bs:=match k with
 | 0=>[43] | 1=>[45] | 2=>[42] | 3=>[47] | _=>[37]
def aQ(k:Nat):Bs:=match k with
 | 0=>[60] | 1=>[60,61] | 2=>[61,61] | 3=>[33,61] | 4=>[62,61] | _=>[62]
def part(x:Nat × Bs)(least:Nat):Bs:=if x.1<least then [40] ++ x.2 ++ [41] else x.2
def Hb:Nat->Nat->Bs
 | 0,_=>[]
 | f+1,n=>if n<10 then [UInt8.ofNat (48+n)] else Hb f (n / 10) ++ [UInt8.ofNat (48+n % 10)]
def digits(n:Nat):Bs:=Hb 20 n
def letter(k:Nat):Bs:=[UInt8.ofNat (97+k)]
def pad(d:Nat):Bs:=List.replicate (2*d) 32
def vL(k:Nat)(x y:Nat × Bs):Bs:=x.2 ++ [32] ++ aQ k ++ [32] ++ y.2
def lines(d:Nat)(xs:List (Nat->Bs)):Bs:=(xs.map fun x=>x d).flatten
def Pr:eW where
 S:=Nat × Bs
 num n:=(2,digits n)
 name k:=(2,letter k)
 neg x:=(2,[45] ++ part x 2)
 bin k x y:=(cL k,part x (cL k) ++ [32] ++ cD k ++ [32] ++ part y (cL k+1))
 T:=Nat->Bs
 assign k x:=fun d=>pad d ++ letter k ++ [32,61,32] ++ x.2 ++ [59,10]
 read k:=fun d=>pad d ++ [114,101,97,100,32] ++ letter k ++ [59,10]
 assert k x y:=fun d=>pad d ++ [97,115,115,101,114,116,32] ++ vL k x y ++ [59,10]
 ite k x y xs ys:=fun d=>pad d ++ [105,102,32] ++ vL k x y ++ [32,123,10] ++ lines (d+1) xs ++ (match ys with
  | some ys=>pad d ++ [125,32,101,108,115,101,32,123,10] ++ lines (d+1) ys
  | none=>[]) ++ pad d ++ [125,10]
 loop k x y xs:=fun d=>pad d ++ [119,104,105,108,101,32] ++ vL k x y ++ [32,123,10] ++ lines (d+1) xs ++ pad d ++ [125,10]
def print(src:Bs):Except (Nat × Nat) Bs:=match parse Pr src with
 | .ok xs=>.ok (lines 0 xs)
 | .error e=>.error e
end Sp
section
variable{p:Addr}
variable{b k B:Nat}
variable{c:Array Value}
variable{t:TypeId}
variable{f:Nat × Nat}
variable{w w1 w2 w3 w':World}
variable{v u:Value}
variable{o o':Obj}
abbrev Wd:=World
theorem hid{p:Prop}(h:p):Hid p:=h
abbrev Bk(w:World)(k:Nat)(c:Array Value)(t:TypeId):Prop:=w.heap[k]?=some (.cells c t)
theorem bA{a b:Bool}(h:a=b):Ending.returned (.bool a)=.returned (.bool b):=by rw[h]
theorem cX{k:IntKind}{a b:Int}(h:a=b):Ending.returned (.int k a)=.returned (.int k b):=by rw[h]
def nV(o:Option Obj):Prop:=∃c f,o=some (.cells c 226 f)
theorem fj(h:t≠226):¬ nV (some (.cells c t f)):=by
 rintro⟨c',f',e⟩;injection e with e
 injection e with _ e2 _
 exact h e2
theorem sT{es:Array MapEntry}{c:Nat}:¬ nV (some (.map es c)):=by
 rintro⟨c',f',e⟩;injection e with e
 cases e
theorem kH(h:w.heap[k]?=some (.cells c t f))(ht:t≠226):¬ nV w.heap[k]?:=by rw[h];exact fj ht
structure Ext(b:Nat)(w w':World):Prop where
 os:w'.os=w.os
 tape:w'.tape=w.tape
 output:w'.output=w.output
 size:w.heap.size<=w'.heap.size
 block:∀k,k<w.heap.size->k≠b->(b<k->¬ nV w.heap[k]?)->w'.heap[k]?=w.heap[k]?
theorem Ext.refl(b:Nat)(w:World):Ext b w w:=⟨rfl,rfl,rfl,Nat.le_refl _,fun _ _ _ _=>rfl⟩
theorem Ext.trans(h:Ext b w1 w2)(k:Ext b w2 w3):Ext b w1 w3 :=
 ⟨k.os.trans h.os,k.tape.trans h.tape,k.output.trans h.output,Nat.le_trans h.size k.size,fun i hi hb hn=>by have e:=h.block i hi hb hn;exact(k.block i (Nat.lt_of_lt_of_le hi h.size) hb (fun h'=>by rw[e];exact hn h')).trans e⟩
theorem Ext.drew(h:Ext b w w'):Ext b w w'.drew:=⟨h.os,h.tape,h.output,h.size,h.block⟩
theorem Ext.alloc(h:Ext b w w')(o:Obj):Ext b w (w'.alloc o) :=
 ⟨h.os,h.tape,h.output,by have:=h.size;simp;omega,fun k hk hb hn=>by have:=h.size;rw[Below.heap_alloc _ _ _ (by omega)];exact h.block k hk hb hn⟩
theorem Ext.setCell(h:Ext b w w')(hp:p.block=b∨w.heap.size<=p.block)(u:Value):Ext b w (w'.setCell p u) :=
 ⟨h.os,h.tape,h.output,by have:=h.size;simp[World.setCell];omega,fun k hk hb hn=>by rw[Below.heap_setCell _ _ _ _ (by rcases hp with rfl | hp<;>omega)];exact h.block k hk hb hn⟩
theorem Ext.aB(h:Below w.heap.size w w'):Ext b w w' :=
 ⟨h.os,h.tape,h.output,h.size,fun k hk _ _=>h.block k hk⟩
theorem Ext.below(h:Ext b w w')(hB:B<=b)(hw:B<=w.heap.size):Below B w w' :=
 ⟨h.os,h.tape,h.output,h.size,fun k hk=>h.block k (by omega) (by omega) (fun h'=>by omega)⟩
theorem cell_of(h:w.heap[b]?=some (.cells c t f))(i:Nat)(hv:c[i]?=some v):w.cell? ⟨b,i,none⟩=some v:=by simp[World.cell?,h,hv]
theorem aw(h:w.heap[b]?=some (.cells c t (0,0)))(i:Nat):w.frozen? ⟨b,i,none⟩=false:=by simp[World.frozen?,h]
theorem ai(h:w.heap[b]?=some (.cells c t f))(i:Nat)(v:Value):(w.setCell ⟨b,i,none⟩ v).heap[b]?=some (.cells (c.setIfInBounds i v) t f):=by simp[World.setCell,Array.getElem?_modify,h]
theorem ah(h:w.heap[b]?=some o):b<w.heap.size:=by have:=Array.getElem?_eq_some_iff.1 h;exact this.1
theorem OG(h:nV (w.setCell p u).heap[k]?):nV w.heap[k]?:=by
 by_cases e:k=p.block
 ·obtain⟨c,f,h⟩:=h
  rw[World.setCell]at h;subst e;simp only[Array.getElem?_modify,if_true]at h;cases hh:w.heap[p.block]? with
  | none=>rw[hh]at h;cases h
  | some o =>
   rw[hh]at h;cases o with
   | cells c0 t0 f0 =>simp at h;exact⟨c0,f0,by rw[h.2.1]⟩
   | _=>simp at h
 ·rwa [Below.heap_setCell _ _ _ _ e]at h
theorem Fw(h:¬ nV w.heap[k]?):¬ nV (w.setCell p u).heap[k]?:=fun h'=>h (OG h')
theorem Ext.bF(h:Ext b w w')(hk:w.heap[k]?=some o)(hb:k≠b)(hn:¬ nV (some o)):w'.heap[k]?=some o:=by rw[h.block k (ah hk) hb (fun _=>by rw[hk];exact hn)];exact hk
theorem heap_alloc_old(h:w.heap[b]?=some o):(w.alloc o').heap[b]?=some o:=by rw[Below.heap_alloc _ _ _ (ah h)];exact h
theorem heap_alloc_new(w:World)(o:Obj):(w.alloc o).heap[w.heap.size]?=some o:=by show(w.heap.push o)[w.heap.size]?=some o;simp
end
namespace Sp
theorem jE(c:UInt8)(r:Bs):bG (c :: r)=if r.head?=some 61/\c∈tX then 2 else if c∈pD then 1 else 0:=rfl
theorem eD(c:UInt8)(r:Bs):bf (c :: r)=if isLet c then bN isLet (c :: r) else if bq c then bN bq (c :: r) else bG (c :: r):=rfl
theorem bX(c:UInt8)(r:Bs):aC (c :: r)=if isLet c then 2 else if bq c then 3 else if 0<bG (c :: r) then 4 else 0:=rfl
theorem wJ(p:UInt8->Bool)(l:Bs):bN p l<=l.length:=by unfold bN;exact(List.takeWhile_prefix p).length_le
theorem eo(p:UInt8->Bool)(c:UInt8)(r:Bs):bN p (c :: r)=if p c then bN p r+1 else 0:=by unfold bN;rw[List.takeWhile_cons];split<;>simp
theorem D8(l:Bs):bG l<=l.length:=by
 cases l with
 | nil=>simp[bG]
 | cons c r =>
  rw[jE];split
  ·rename_i h
   cases r with
   | nil=>simp at h
   | cons d r=>simp
  ·split<;>simp
theorem fv(l:Bs):bf l<=l.length:=by
 cases l with
 | nil=>simp[bf]
 | cons c r =>
  rw[eD];split
  ·exact wJ _ _
  ·split
   ·exact wJ _ _
   ·exact D8 _
theorem kI(l:Bs):skip l <:+ l:=List.dropWhile_suffix _
theorem oH(l:Bs):next l <:+ l:=(kI _).trans (List.drop_suffix _ _)
theorem ri(l:Bs):(skip l).length<=l.length:=(kI l).length_le
theorem cj(l:Bs):(next l).length<=l.length:=(oH l).length_le
theorem dc{l:Bs}(h:aC l=2∨aC l=3∨aC l=4):0<bf l:=by
 cases l with
 | nil=>simp[aC]at h
 | cons c r =>
  rw[bX]at h;rw[eD];by_cases hl:isLet c=true
  ·simp[hl,eo]
  ·by_cases hd:bq c=true
   ·simp[hl,hd,eo]
   ·by_cases hs:0<bG (c :: r)
    ·simp[hl,hd,hs]
    ·simp[hl,hd,hs]at h
theorem dR(l:Bs):(tok l).length=bf l:=by unfold tok;rw[List.length_take];have:=fv l;omega
theorem fL{l:Bs}(h:0<bf l):(next l).length<l.length:=by have h1:(next l).length<=(l.drop (bf l)).length:=ri _;have h2:=fv l;rw[List.length_drop]at h1;omega
theorem aI{l t:Bs}(h:tok l=t)(ht:t≠[]):(next l).length<l.length:=by apply fL;rw[<-dR,h];exact List.length_pos_iff.2 ht
end Sp
theorem ot{w w':World}{o:Obj}{row:Option Nat}(hg:(w.alloc o).grownBy w' row):w.grownBy w' row :=
 ⟨hg.os,hg.tape,hg.output,by have:=hg.size;simp at this;omega,fun k hk hr=>by rw[hg.block k (by simp;omega) hr];exact Below.heap_alloc _ _ _ hk⟩
theorem FB(x:Value)(w:World):(Instr.typeAssert (.iface 226 x) 277 226 true).run prog w=.ok (.tuple #[x,.bool true]) w:=by kernel_rfl
theorem BS(x:Value)(w:World):(Instr.typeAssert (.iface 275 x) 277 226 true).run prog w=.ok (.tuple #[.int .i16 0,.bool false]) w:=by kernel_rfl
theorem mZ(x:Value)(w:World):(Instr.typeAssert (.iface 275 x) 277 275 true).run prog w=.ok (.tuple #[x,.bool true]) w:=by kernel_rfl
theorem Fv(x:Value)(w:World):(Instr.typeAssert (.iface 330 x) 277 226 true).run prog w=.ok (.tuple #[.int .i16 0,.bool false]) w:=by kernel_rfl
theorem sW(x:Value)(w:World):(Instr.typeAssert (.iface 330 x) 277 275 true).run prog w=.ok (.tuple #[.int .i64 0,.bool false]) w:=by kernel_rfl
theorem EH(x:Value)(w:World):(Instr.typeAssert (.iface 330 x) 277 330 true).run prog w=.ok (.tuple #[x,.bool true]) w:=by kernel_rfl
theorem Ef(x:Value)(w:World):(Instr.typeAssert (.iface 334 x) 277 226 true).run prog w=.ok (.tuple #[.int .i16 0,.bool false]) w:=by kernel_rfl
theorem oB(x:Value)(w:World):(Instr.typeAssert (.iface 334 x) 277 275 true).run prog w=.ok (.tuple #[.int .i64 0,.bool false]) w:=by kernel_rfl
theorem FC(x:Value)(w:World):(Instr.typeAssert (.iface 334 x) 277 330 true).run prog w=.ok (.tuple #[.agg #[.nilIface],.bool false]) w:=by kernel_rfl
theorem EW(x:Value)(w:World):(Instr.typeAssert (.iface 334 x) 277 334 true).run prog w=.ok (.tuple #[x,.bool true]) w:=by kernel_rfl
theorem Sh(x:Value)(w:World):(Instr.typeAssert (.iface 279 x) 234 279 true).run prog w=.ok (.tuple #[x,.bool true]) w:=by kernel_rfl
theorem Si(x:Value)(w:World):(Instr.typeAssert (.iface 283 x) 234 279 true).run prog w=.ok (.tuple #[.agg #[.int .i64 0,.int .i64 0,.nilIface],.bool false]) w:=by kernel_rfl
theorem RP(x:Value)(w:World):(Instr.typeAssert (.iface 283 x) 234 283 true).run prog w=.ok (.tuple #[x,.bool true]) w:=by kernel_rfl
theorem Sr(x:Value)(w:World):(Instr.typeAssert (.iface 287 x) 234 279 true).run prog w=.ok (.tuple #[.agg #[.int .i64 0,.int .i64 0,.nilIface],.bool false]) w:=by kernel_rfl
theorem SS(x:Value)(w:World):(Instr.typeAssert (.iface 287 x) 234 283 true).run prog w=.ok (.tuple #[.agg #[.int .i64 0,.int .i64 0],.bool false]) w:=by kernel_rfl
theorem R1(x:Value)(w:World):(Instr.typeAssert (.iface 287 x) 234 287 true).run prog w=.ok (.tuple #[x,.bool true]) w:=by kernel_rfl
theorem R7(x:Value)(w:World):(Instr.typeAssert (.iface 290 x) 234 279 true).run prog w=.ok (.tuple #[.agg #[.int .i64 0,.int .i64 0,.nilIface],.bool false]) w:=by kernel_rfl
theorem Sx(x:Value)(w:World):(Instr.typeAssert (.iface 290 x) 234 283 true).run prog w=.ok (.tuple #[.agg #[.int .i64 0,.int .i64 0],.bool false]) w:=by kernel_rfl
theorem RF(x:Value)(w:World):(Instr.typeAssert (.iface 290 x) 234 287 true).run prog w=.ok (.tuple #[.agg #[.int .i64 0,.int .i64 0,.int .i64 0,.nilIface,.nilIface],.bool false]) w:=by kernel_rfl
theorem RG(x:Value)(w:World):(Instr.typeAssert (.iface 290 x) 234 290 true).run prog w=.ok (.tuple #[x,.bool true]) w:=by kernel_rfl
theorem SM(x:Value)(w:World):(Instr.typeAssert (.iface 293 x) 234 279 true).run prog w=.ok (.tuple #[.agg #[.int .i64 0,.int .i64 0,.nilIface],.bool false]) w:=by kernel_rfl
theorem SB(x:Value)(w:World):(Instr.typeAssert (.iface 293 x) 234 283 true).run prog w=.ok (.tuple #[.agg #[.int .i64 0,.int .i64 0],.bool false]) w:=by kernel_rfl
theorem Sd(x:Value)(w:World):(Instr.typeAssert (.iface 293 x) 234 287 true).run prog w=.ok (.tuple #[.agg #[.int .i64 0,.int .i64 0,.int .i64 0,.nilIface,.nilIface],.bool false]) w:=by kernel_rfl
theorem RD(x:Value)(w:World):(Instr.typeAssert (.iface 293 x) 234 290 true).run prog w=.ok (.tuple #[.agg #[.int .i64 0,.int .i64 0,.nilIface,.nilIface,.slice none 0 0,.slice none 0 0,.bool false],.bool false]) w:=by kernel_rfl
theorem SJ(x:Value)(w:World):(Instr.typeAssert (.iface 293 x) 234 293 true).run prog w=.ok (.tuple #[x,.bool true]) w:=by kernel_rfl
namespace Sp
section
variable{α β:Type}
def E3(r:Except (Nat × Nat) α):Prop:=∀e,r=.error e->e.1≠0
theorem E3.ok(x:α):E3 (.ok x):=fun _ h=>by cases h
theorem E3.err{r:Except (Nat × Nat) α}{e:Nat × Nat}(h:E3 r)(hr:r=.error e):E3 (.error e:Except (Nat × Nat) β):=fun _ k=>by cases k;exact h _ hr
theorem E3.bad(l:Bs):E3 (Sp.bad 2 l:Except (Nat × Nat) α):=fun _ h=>by cases h;simp
theorem E3.Zb(l:Bs):E3 (Sp.bad 3 l:Except (Nat × Nat) α):=fun _ h=>by cases h;simp
theorem sK(t l:Bs):E3 (take t l):=by
 unfold take;split
 ·exact .ok _
 ·exact .bad _
theorem zN(t:Bs)(o:Nat)(l:Bs):E3 (enter t o l):=by
 unfold enter;split
 ·split
  ·exact .Zb _
  ·exact .ok _
 ·exact .bad _
theorem AN(l:Bs):E3 (dE l):=by
 unfold dE;split
 ·exact .ok _
 ·exact .bad _
theorem Lh(A:eW)(lv:Nat)(part:Bs->R A.S)(h:∀l,E3 (part l)):∀m x l,E3 (bC A lv part m x l):=by
 intro m
 induction m with
 | zero=>intro x l;exact .ok _
 | succ m ih =>
  intro x l;unfold bC;split
  ·split
   ·split
    ·exact ih _ _
    ·exact(h _).err ‹_›
   ·exact .ok _
  ·exact .ok _
theorem GJ(A:eW)(lv:Nat)(part:Bs->R A.S)(h:∀l,E3 (part l))(l:Bs):E3 (bL A lv part l):=by
 unfold bL;split
 ·exact Lh A lv part h _ _ _
 ·exact(h _).err ‹_›
theorem KZ(A:eW)(u:Bs->R A.S)(h:∀l,E3 (u l))(l:Bs):E3 (mO A u l):=GJ A 0 _ (fun l=>GJ A 1 u h l) l
theorem Lq(A:eW):∀n o l,E3 (bo A n o l):=by
 intro n
 induction n with
 | zero=>intro o l;exact .bad _
 | succ n ih =>
  intro o l;unfold bo;split
  ·split
   ·exact .ok _
   ·exact .bad _
  ·split
   ·split
    ·exact .ok _
    ·exact(AN _).err ‹_›
   ·split
    ·split
     ·split
      ·exact .ok _
      ·exact(ih _ _).err ‹_›
     ·exact(zN _ _ _).err ‹_›
    ·split
     ·split
      ·split
       ·exact .ok _
       ·exact(sK _ _).err ‹_›
      ·exact(KZ A _ (ih _) _).err ‹_›
     ·exact(zN _ _ _).err ‹_›
theorem Ry(A:eW)(o:Nat)(l:Bs):E3 (pS A o l):=KZ A _ (Lq A _ _) l
theorem zD(A:eW)(o:Nat)(l:Bs):E3 (bn A o l):=by
 unfold bn;split
 ·split
  ·split
   ·exact .ok _
   ·exact(Ry _ _ _).err ‹_›
  ·exact .bad _
 ·exact(Ry _ _ _).err ‹_›
theorem Hc(A:eW)(st:Bs->R A.T)(h:∀l,E3 (st l)):∀m acc l,E3 (cZ A st m acc l):=by
 intro m
 induction m with
 | zero=>intro x l;exact .ok _
 | succ m ih =>
  intro x l;unfold cZ;split
  ·split
   ·exact ih _ _
   ·exact(h _).err ‹_›
  ·exact .ok _
theorem BU(A:eW)(st:Bs->R A.T)(h:∀l,E3 (st l))(o:Nat)(l:Bs):E3 (aS A st o l):=by
 unfold aS;split
 ·split
  ·split
   ·exact .ok _
   ·exact(sK _ _).err ‹_›
  ·exact(Hc A st h _ _ _).err ‹_›
 ·exact(zN _ _ _).err ‹_›
theorem I6(A:eW)(o:Nat)(l:Bs):E3 (cy A o l):=by
 unfold cy;split
 ·split
  ·split
   ·split
    ·exact .ok _
    ·exact(sK _ _).err ‹_›
   ·exact(Ry _ _ _).err ‹_›
  ·exact(sK _ _).err ‹_›
 ·exact(AN _).err ‹_›
theorem OY(A:eW)(l:Bs):E3 (gx A l):=by
 unfold gx;split
 ·split
  ·exact .ok _
  ·exact(sK _ _).err ‹_›
 ·exact(AN _).err ‹_›
theorem Jy(A:eW)(o:Nat)(l:Bs):E3 (cY A o l):=by
 unfold cY;split
 ·split
  ·exact .ok _
  ·exact(sK _ _).err ‹_›
 ·exact(zD _ _ _).err ‹_›
theorem Vf(A:eW)(aV:Bs->R (List A.T))(h:∀l,E3 (aV l))(o:Nat)(l:Bs):E3 (qF A aV o l):=by
 unfold qF;split
 ·split
  ·split
   ·split
    ·exact .ok _
    ·exact(h _).err ‹_›
   ·exact .ok _
  ·exact(h _).err ‹_›
 ·exact(zD _ _ _).err ‹_›
theorem La(A:eW)(aV:Bs->R (List A.T))(h:∀l,E3 (aV l))(o:Nat)(l:Bs):E3 (ef A aV o l):=by
 unfold ef;split
 ·split
  ·exact .ok _
  ·exact(h _).err ‹_›
 ·exact(zD _ _ _).err ‹_›
theorem Oi(A:eW):∀n o l,E3 (bH A n o l):=by
 intro n
 induction n with
 | zero=>intro o l;exact .bad _
 | succ n ih =>
  intro o l;unfold bH;split
  ·exact OY A l
  ·split
   ·exact Jy A o l
   ·split
    ·exact Vf A _ (fun l=>BU A _ (ih _) o l) o l
    ·split
     ·exact La A _ (fun l=>BU A _ (ih _) o l) o l
     ·exact I6 A o l
theorem PO(A:eW)(src:Bs):E3 (parse A src):=by
 unfold parse;split
 ·intro e h;cases h;simp
 ·have hp:E3 (ou A (skip src)):=by
   unfold ou;split
   ·split
    ·exact .ok _
    ·exact .bad _
   ·exact(Hc A _ (Oi A _ _) _ _ _).err ‹_›
  split
  ·exact .ok _
  ·next e left hq=>intro e h;cases h;exact fun k=>hp _ hq k
theorem Pp(src:Bs):E3 (print src):=by
 unfold print;split
 ·exact .ok _
 ·exact(PO Pr src).err ‹_›
end
end Sp
end Go.Proofs.YtiopfihjmkfdmaaGreatDoor
