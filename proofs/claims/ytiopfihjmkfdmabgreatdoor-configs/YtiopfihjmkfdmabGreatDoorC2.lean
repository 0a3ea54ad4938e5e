import Derived.Test.YtiopfihjmkfdmabGreatDoorCo
import Derived.JoinedTies
import Derived.KernelRfl
import Derived.Test.YtiopfihjmkfdmabGreatDoorProg
import Derived.WalkKit
import Derived.WalkLawsBesides
import Derived.WalkSpells
import GoSem.Claim
import GoSem.ClaimJoined
import GoSem.ClaimMapViews
namespace Go.Proofs.YtiopfihjmkfdmabGreatDoor
open Option renaming some->Y,none->M
open Go.Obj renaming cells->L
open Go.Value renaming bool->U,int->I,iface->σ,tuple->φ,agg->J,slice->Z
open Go.Ending renaming returned->υ
open Go.IntKind renaming i16->ψ,i64->O
open Go.Proofs.Tryz
open Go.RowKit
set_option maxRecDepth 100000
set_option maxHeartbeats 16000000
namespace Sp
abbrev Bs:=List UInt8
def isLet(c:UInt8):Bool:=decide (97<=c.toNat)&&decide (c.toNat<=122)
def bC(c:UInt8):Bool:=decide (48<=c.toNat)&&decide (c.toNat<=57)
def ov(c:UInt8):Bool:=c==32||c==10
def bT(p:UInt8->Bool)(l:Bs):Nat:=(l.takeWhile p).length
def wR:Bs:=[60,62,61,33]
def qU:Bs:=[60,62,61,43,45,42,47,37,40,41,123,125,59]
def bM:Bs->Nat
 |[]=>0
 |c::r=>if r.head?=Y 61/\c∈wR then 2 else if c∈qU then 1 else 0
def aC:Bs->Nat
 |[]=>1
 |c::r=>if isLet c then 2 else if bC c then 3 else if 0<bM (c::r) then 4 else 0
def bh:Bs->Nat
 |[]=>0
 |c::r=>if isLet c then bT isLet (c::r) else if bC c then bT bC (c::r) else bM (c::r)
def skip(l:Bs):Bs:=l.dropWhile ov
def tok(l:Bs):Bs:=l.take (bh l)
def next(l:Bs):Bs:=skip (l.drop (bh l))
abbrev R(α:Type):=Except (Nat×Nat) (α×Bs)
def bad{α:Type}(e:Nat)(l:Bs):Except (Nat×Nat) α:=.error (e,l.length)
def take(t:Bs)(l:Bs):Except (Nat×Nat) Bs:=if tok l=t then .ok (next l) else bad 2 l
def enter(t:Bs)(o:Nat)(l:Bs):Except (Nat×Nat) Bs:=if tok l=t then(if o=12 then bad 3 l else .ok (next l)) else bad 2 l
structure fE where
 S:Type
 num:Nat->S
 name:Nat->S
 neg:S->S
 bin:Nat->S->S->S
 T:Type
 assign:Nat->S->T
 read:Nat->T
 assert:Nat->S->S->T
 ite:Nat->S->S->List T->Option (List T)->T
 loop:Nat->S->S->List T->T
def eA(t:Bs):Option Nat:=
 if t=[43] then Y 0 else if t=[45] then Y 1 else if t=[42] then Y 2 else if t=[47] then Y 3 else if t=[37] then Y 4 else M
def cT(k:Nat):Nat:=if k<=1 then 0 else 1
def eg(t:Bs):Option Nat:=
 if t=[60] then Y 0 else if t=[60,61] then Y 1 else if t=[61,61] then Y 2 else if t=[33,61] then Y 3 else if t=[62,61] then Y 4 else if t=[62] then Y 5 else M
def bn(t:Bs):Nat:=t.foldl (λa c=>a*10+(c.toNat-48)) 0
def gh(t:Bs):Option Nat:=if 1<t.length/\t.head?=Y 48 then M else if bn t<=32767 then Y (bn t) else M
def aS(l:Bs):Option Nat:=match tok l with
 |[c]=>if aC l=2/\c.toNat<105 then Y (c.toNat-97) else M
 |_=>M
def dN(l:Bs):R Nat:=match aS l with
 |some k=>.ok (k,next l)
 |none=>bad 2 l
def bK(A:fE)(lv:Nat)(part:Bs->R A.S):Nat->A.S->Bs->R A.S
 |0,x,l=>.ok (x,l)
 |m+1,x,l=>match eA (tok l) with
  | some k=>if cT k=lv then(match part (next l) with
    |.ok (y,l')=>bK A lv part m (A.bin k x y) l'
    |.error e=>.error e) else .ok (x,l)
  |none=>.ok (x,l)
def bS(A:fE)(lv:Nat)(part:Bs->R A.S)(l:Bs):R A.S:=match part l with
 |.ok (x,l')=>bK A lv part (l'.length+1) x l'
 |.error e=>.error e
def pR(A:fE)(u:Bs->R A.S)(l:Bs):R A.S:=bS A 1 u l
def oI(A:fE)(u:Bs->R A.S)(l:Bs):R A.S:=bS A 0 (pR A u) l
def bp(A:fE):Nat->Nat->Bs->R A.S
 |0,_,l=>bad 2 l
 |n+1,o,l=>
  if aC l=3 then(match gh (tok l) with
   |some v=>.ok (A.num v,next l)
   |none=>bad 2 l)
  else if aC l=2 then(match dN l with
   |.ok (k,l1)=>.ok (A.name k,l1)
   |.error e=>.error e)
  else if tok l=[45] then(match enter [45] o l with
   |.ok l1=>(match bp A n (o+1) l1 with
    |.ok (x,l2)=>.ok (A.neg x,l2)
    |.error e=>.error e)
   |.error e=>.error e)
  else(match enter [40] o l with
   |.ok l1=>(match oI A (bp A n (o+1)) l1 with
    |.ok (x,l2)=>(match take [41] l2 with
     |.ok l3=>.ok (x,l3)
     |.error e=>.error e)
    |.error e=>.error e)
   |.error e=>.error e)
def pS(A:fE)(o:Nat)(l:Bs):R A.S:=oI A (bp A (l.length+1) o) l
def bo(A:fE)(o:Nat)(l:Bs):R (Nat×A.S×A.S):=match pS A o l with
 |.ok (x,l1)=>(match eg (tok l1) with
  |some k=>(match pS A o (next l1) with
   |.ok (y,l2)=>.ok ((k,x,y),l2)
   |.error e=>.error e)
  |none=>bad 2 l1)
 |.error e=>.error e
def dh(A:fE)(st:Bs->R A.T):Nat->List A.T->Bs->R (List A.T)
 |0,acc,l=>.ok (acc,l)
 | m+1,acc,l=>if aC l=2 then(match st l with
     |.ok (x,l1)=>dh A st m (acc++[x]) l1
     |.error e=>.error e) else .ok (acc,l)
def aR(A:fE)(st:Bs->R A.T)(o:Nat)(l:Bs):R (List A.T):=match enter [123] o l with
 |.ok l1=>(match dh A st (l1.length+1) [] l1 with
  |.ok (xs,l2)=>(match take [125] l2 with
   |.ok l3=>.ok (xs,l3)
   |.error e=>.error e)
  |.error e=>.error e)
 |.error e=>.error e
def vW:Bs:=[114,101,97,100]
def ml:Bs:=[97,115,115,101,114,116]
def TO:Bs:=[105,102]
def pZ:Bs:=[119,104,105,108,101]
def lI:Bs:=[101,108,115,101]
def cC(A:fE)(o:Nat)(l:Bs):R A.T:=match dN l with
 |.ok (k,l1)=>(match take [61] l1 with
  |.ok l2=>(match pS A o l2 with
   |.ok (x,l3)=>(match take [59] l3 with
    |.ok l4=>.ok (A.assign k x,l4)
    |.error e=>.error e)
   |.error e=>.error e)
  |.error e=>.error e)
 |.error e=>.error e
def gX(A:fE)(l:Bs):R A.T:=match dN (next l) with
 |.ok (k,l1)=>(match take [59] l1 with
  |.ok l2=>.ok (A.read k,l2)
  |.error e=>.error e)
 |.error e=>.error e
def de(A:fE)(o:Nat)(l:Bs):R A.T:=match bo A o (next l) with
 |.ok ((k,x,y),l1)=>(match take [59] l1 with
  |.ok l2=>.ok (A.assert k x y,l2)
  |.error e=>.error e)
 |.error e=>.error e
def Ð(A:fE)(aV:Bs->R (List A.T))(o:Nat)(l:Bs):R A.T:=match bo A o (next l) with
 |.ok ((k,x,y),l1)=>(match aV l1 with
  | .ok (xs,l2)=>if tok l2=lI then(match aV (next l2) with
    |.ok (ys,l3)=>.ok (A.ite k x y xs (Y ys),l3)
    |.error e=>.error e) else .ok (A.ite k x y xs M,l2)
  |.error e=>.error e)
 |.error e=>.error e
def eF(A:fE)(aV:Bs->R (List A.T))(o:Nat)(l:Bs):R A.T:=match bo A o (next l) with
 |.ok ((k,x,y),l1)=>(match aV l1 with
  |.ok (xs,l2)=>.ok (A.loop k x y xs,l2)
  |.error e=>.error e)
 |.error e=>.error e
def bL(A:fE):Nat->Nat->Bs->R A.T
 |0,_,l=>bad 2 l
 |n+1,o,l=>
  if tok l=vW then gX A l
  else if tok l=ml then de A o l
  else if tok l=TO then Ð A (λl=>aR A (bL A n (o+1)) o l) o l
  else if tok l=pZ then eF A (λl=>aR A (bL A n (o+1)) o l) o l
  else cC A o l
def pK(A:fE)(l:Bs):Except (Nat×Nat) (List A.T):=match dh A (bL A (l.length+1) 0) (l.length+1) [] l with
 |.ok (xs,l1)=>if l1=[] then .ok xs else bad 2 l1
 |.error e=>.error e
def parse(A:fE)(src:Bs):Except (Nat×Nat) (List A.T):=
 if 400<src.length then .error (1,0) else match pK A (skip src) with
  |.ok xs=>.ok xs
  |.error (e,left)=>.error (e,src.length-left)
def bB(k:Nat):Bs:=match k with
 |0=>[43]|1=>[45]|2=>[42]|3=>[47]|_=>[37]
def aM(k:Nat):Bs:=match k with
 |0=>[60]|1=>[60,61]|2=>[61,61]|3=>[33,61]|4=>[62,61]|_=>[62]
def part(x:Nat×Bs)(least:Nat):Bs:=if x.1<least then [40]++x.2++[41] else x.2
def Ju:Nat->Nat->Bs
 |0,_=>[]
 |f+1,n=>if n<10 then [UInt8.ofNat (48+n)] else Ju f (n / 10)++[UInt8.ofNat (48+n%10)]
def digits(n:Nat):Bs:=Ju 20 n
def Iz(k:Nat):Bs:=[UInt8.ofNat (97+k)]
def pad(d:Nat):Bs:=List.replicate (2*d) 32
def yv(k:Nat)(x y:Nat×Bs):Bs:=x.2++[32]++aM k++[32]++y.2
def lines(d:Nat)(xs:List (Nat->Bs)):Bs:=(xs.map λx=>x d).flatten
def Pr:fE where
 S:=Nat×Bs
 num n:=(2,digits n)
 name k:=(2,Iz k)
 neg x:=(2,[45]++part x 2)
 bin k x y:=(cT k,part x (cT k)++[32]++bB k++[32]++part y (cT k+1))
 T:=Nat->Bs
 assign k x:=λd=>pad d++Iz k++[32,61,32]++x.2++[59,10]
 read k:=λd=>pad d++[114,101,97,100,32]++Iz k++[59,10]
 assert k x y:=λd=>pad d++[97,115,115,101,114,116,32]++yv k x y++[59,10]
 ite k x y xs ys:=λd=>pad d++[105,102,32]++yv k x y++[32,123,10]++lines (d+1) xs++(match ys with
  |some ys=>pad d++[125,32,101,108,115,101,32,123,10]++lines (d+1) ys
  |none=>[])++pad d++[125,10]
 loop k x y xs:=λd=>pad d++[119,104,105,108,101,32]++yv k x y++[32,123,10]++lines (d+1) xs++pad d++[125,10]
def print(src:Bs):Except (Nat×Nat) Bs:=match parse Pr src with
 |.ok xs=>.ok (lines 0 xs)
 |.error e=>.error e
end Sp
section
variable{p:Addr}
variable{b k B:Nat}
variable{c:Array Value}
variable{t:TypeId}
variable{f:Nat×Nat}
variable{w w1 w2 w3 w':World}
variable{v u:Value}
variable{o o':Obj}
abbrev Wd:=World
abbrev Å{n:Nat}{w:World}:=Below.refl n w
abbrev È{n:Nat}:=Nat.le_refl n
abbrev Ì{n:Nat}:=Nat.zero_le n
abbrev Ò{n:Int}:=Int.le_refl n
theorem Ã{p:Prop}(h:p:=by kernel_rfl):p:=h
theorem Ñ{p:Prop}(h:p:=by as_aux_lemma=>kernel_rfl):p:=h
abbrev Ó:=@Go.World.cell?_alloc_lt
abbrev Î:=@List.getElem?_eq_getElem
abbrev Ï:=@Option.some.inj
abbrev Û:=@Go.RowKit.Below.refl
abbrev Í:=@List.getElem?_eq_some_iff
abbrev é:=@Go.World.frozen?_alloc_old
abbrev Ņ:=@Nat.le_refl
abbrev Þ:=@Go.World.var?_cell
abbrev Ù:=@List.mem_of_getElem?
abbrev Ç:=@Go.bodyPost_ret
abbrev Á:=@if_pos
abbrev Ý:=@Array.getElem?_toList
abbrev ã:=@Array.getElem?_eq_none
abbrev Ø:=@List.getElem?_toArray
abbrev Ö:=@List.mem_singleton
abbrev Â:=@if_neg
abbrev Ü:=@Array.getElem?_eq_getElem
abbrev ń:=@Nat.zero_le
abbrev ý:=@List.drop_succ_cons
abbrev á:=@List.take_succ_cons
abbrev ì:=@List.mem_ofFn
abbrev Æ:=@Go.RowKit.Below.heap_setCell
abbrev ä:=@List.take_succ_eq_append_getElem
abbrev ß:=@Go.Sem.run_bind
abbrev î:=@Nat.mul_le_mul_right
abbrev è:=@Array.length_toList
abbrev Ă:=@List.getD_eq_getElem?_getD
abbrev æ:=@Nat.lt_or_ge
abbrev â:=@List.getElem?_ofFn
abbrev í:=@Array.ext_getElem?
abbrev ü:=@Go.wp_loop_rounds
abbrev ë:=@List.drop_eq_getElem_cons
abbrev ø:=@List.mapM_cons
abbrev ò:=@List.drop_zero
abbrev ó:=@List.take_zero
abbrev Ĉ:=@Go.World.cell?_setCell_same
abbrev Õ:=@decide_eq_true_eq
abbrev Ô:=@List.append_assoc
abbrev å:=@List.size_toArray
abbrev þ:=@Go.plainElem_int
abbrev ú:=@List.mapM_nil
abbrev à:=@Bool.and_eq_true
abbrev ê:=@List.drop_of_length_le
abbrev õ:=@Option.map_eq_some_iff
abbrev ę:=@List.getElem_cons_zero
abbrev ė:=@List.getElem?_eq_none
abbrev Ċ:=@List.contains_iff_mem
abbrev ç:=@UInt8.toNat_inj
abbrev û:=@Go.rounds_succ
abbrev ñ:=@Prod.mk.injEq
abbrev Ë:=@congrArg
abbrev ω(w w':World):Prop:=Below w.heap.size w w'
theorem hid{p:Prop}(h:p):Hid p:=h
abbrev Bk(w:World)(k:Nat)(c:Array Value)(t:TypeId):Prop:=w.heap[k]?=Y (L c t)
theorem bt{a b:Bool}(h:a=b):Ending.returned (U a)=υ (U b):=by rw[h]
theorem dc{k:IntKind}{a b:Int}(h:a=b):Ending.returned (I k a)=υ (I k b):=by rw[h]
def pf(o:Option Obj):Prop:=∃c f,o=Y (L c 180 f)
theorem fK(h:t≠180):¬pf (Y (L c t f)):=by
 rintro⟨c',f',e⟩;injection e with e
 injection e with _ e2 _
 exact h e2
theorem vF{es:Array MapEntry}{c:Nat}:¬pf (Y (.map es c)):=by
 rintro⟨c',f',e⟩;injection e with e
 cases e
theorem mf(h:w.heap[k]?=Y (L c t f))(ht:t≠180):¬pf w.heap[k]?:=by rw[h];exact fK ht
structure Ext(b:Nat)(w w':World):Prop where
 os:w'.os=w.os
 tape:w'.tape=w.tape
 output:w'.output=w.output
 size:w.heap.size<=w'.heap.size
 block:∀k,k<w.heap.size->k≠b->(b<k->¬pf w.heap[k]?)->w'.heap[k]?=w.heap[k]?
theorem Ext.refl(b:Nat)(w:World):Ext b w w:=⟨rfl,rfl,rfl,È,λ_ _ _ _=>rfl⟩
theorem Ext.trans(h:Ext b w1 w2)(k:Ext b w2 w3):Ext b w1 w3:=
 ⟨k.os.trans h.os,k.tape.trans h.tape,k.output.trans h.output,Nat.le_trans h.size k.size,λi hi hb hn=>by have e:=h.block i hi hb hn;exact(k.block i (Nat.lt_of_lt_of_le hi h.size) hb (λh'=>by rw[e];exact hn h')).trans e⟩
theorem Ext.drew(h:Ext b w w'):Ext b w w'.drew:=⟨h.os,h.tape,h.output,h.size,h.block⟩
theorem Ext.alloc(h:Ext b w w')(o:Obj):Ext b w (w'.alloc o):=
 ⟨h.os,h.tape,h.output,by have:=h.size;simp;omega,λk hk hb hn=>by have:=h.size;rw[Below.heap_alloc _ _ _ À];exact h.block k hk hb hn⟩
theorem Ext.setCell(h:Ext b w w')(hp:p.block=b∨w.heap.size<=p.block)(u:Value):Ext b w (w'.setCell p u):=
 ⟨h.os,h.tape,h.output,by have:=h.size;simp[World.setCell];omega,λk hk hb hn=>by rw[Æ _ _ _ _ (by rcases hp with rfl|hp<;>omega)];exact h.block k hk hb hn⟩
theorem Ext.aF(h:ω w w'):Ext b w w':=
 ⟨h.os,h.tape,h.output,h.size,λk hk _ _=>h.block k hk⟩
theorem Ext.below(h:Ext b w w')(hB:B<=b)(hw:B<=w.heap.size):Below B w w':=
 ⟨h.os,h.tape,h.output,h.size,λk hk=>h.block k À À (λh'=>À)⟩
theorem cell_of(h:w.heap[b]?=Y (L c t f))(i:Nat)(hv:c[i]?=Y v):w.cell? ⟨b,i,M⟩=Y v:=by simp[World.cell?,h,hv]
theorem ay(h:w.heap[b]?=Y (L c t (0,0)))(i:Nat):w.frozen? ⟨b,i,M⟩=false:=by simp[World.frozen?,h]
theorem ai(h:w.heap[b]?=Y (L c t f))(i:Nat)(v:Value):(w.setCell ⟨b,i,M⟩ v).heap[b]?=Y (L (c.setIfInBounds i v) t f):=by simp[World.setCell,Array.getElem?_modify,h]
theorem ah(h:w.heap[b]?=Y o):b<w.heap.size:=by have:=Array.getElem?_eq_some_iff.1 h;exact this.1
theorem RA(h:pf (w.setCell p u).heap[k]?):pf w.heap[k]?:=by
 by_cases e:k=p.block
 .obtain⟨c,f,h⟩:=h
  rw[World.setCell]at h;subst e;simp only[Array.getElem?_modify,if_true]at h;cases hh:w.heap[p.block]? with
  |none=>rw[hh]at h;cases h
  |some o=>
   rw[hh]at h;cases o with
   |cells c0 t0 f0=>simp at h;exact⟨c0,f0,by rw[h.2.1]⟩
   |_=>simp at h
 .rwa[Æ _ _ _ _ e]at h
theorem Iu(h:¬pf w.heap[k]?):¬pf (w.setCell p u).heap[k]?:=λh'=>h (RA h')
theorem Ext.bH(h:Ext b w w')(hk:w.heap[k]?=Y o)(hb:k≠b)(hn:¬pf (Y o)):w'.heap[k]?=Y o:=by rw[h.block k (ah hk) hb (λ_=>by rw[hk];exact hn)];exact hk
theorem heap_alloc_old(h:w.heap[b]?=Y o):(w.alloc o').heap[b]?=Y o:=by rw[Below.heap_alloc _ _ _ (ah h)];exact h
theorem heap_alloc_new(w:World)(o:Obj):(w.alloc o).heap[w.heap.size]?=Y o:=by show(w.heap.push o)[w.heap.size]?=Y o;simp
end
namespace Sp
theorem kt(c:UInt8)(r:Bs):bM (c::r)=if r.head?=Y 61/\c∈wR then 2 else if c∈qU then 1 else 0:=rfl
theorem eN(c:UInt8)(r:Bs):bh (c::r)=if isLet c then bT isLet (c::r) else if bC c then bT bC (c::r) else bM (c::r):=rfl
theorem cj(c:UInt8)(r:Bs):aC (c::r)=if isLet c then 2 else if bC c then 3 else if 0<bM (c::r) then 4 else 0:=rfl
theorem yh(p:UInt8->Bool)(l:Bs):bT p l<=l.length:=by unfold bT;exact(List.takeWhile_prefix p).length_le
theorem eJ(p:UInt8->Bool)(c:UInt8)(r:Bs):bT p (c::r)=if p c then bT p r+1 else 0:=by unfold bT;rw[List.takeWhile_cons];split<;>simp
theorem G0(l:Bs):bM l<=l.length:=by
 cases l with
 |nil=>simp[bM]
 |cons c r=>
  rw[kt];split
  .rename_i h
   cases r with
   |nil=>simp at h
   |cons d r=>simp
  .split<;>simp
theorem fY(l:Bs):bh l<=l.length:=by
 cases l with
 |nil=>simp[bh]
 |cons c r=>
  rw[eN];split
  .exact yh _ _
  .split
   .exact yh _ _
   .exact G0 _
theorem mb(l:Bs):skip l <:+ l:=List.dropWhile_suffix _
theorem pJ(l:Bs):next l <:+ l:=(mb _).trans (List.drop_suffix _ _)
theorem tf(l:Bs):(skip l).length<=l.length:=(mb l).length_le
theorem cr(l:Bs):(next l).length<=l.length:=(pJ l).length_le
theorem dj{l:Bs}(h:aC l=2∨aC l=3∨aC l=4):0<bh l:=by
 cases l with
 |nil=>simp[aC]at h
 |cons c r=>
  rw[cj]at h;rw[eN];by_cases hl:isLet c=true
  .simp[hl,eJ]
  .by_cases hd:bC c=true
   .simp[hl,hd,eJ]
   .by_cases hs:0<bM (c::r)
    .simp[hl,hd,hs]
    .simp[hl,hd,hs]at h
theorem ef(l:Bs):(tok l).length=bh l:=by unfold tok;rw[List.length_take];have:=fY l;omega
theorem gl{l:Bs}(h:0<bh l):(next l).length<l.length:=by have h1:(next l).length<=(l.drop (bh l)).length:=tf _;have h2:=fY l;rw[List.length_drop]at h1;omega
theorem aJ{l t:Bs}(h:tok l=t)(ht:t≠[]):(next l).length<l.length:=by apply gl;rw[<-ef,h];exact List.length_pos_iff.2 ht
end Sp
theorem qb{w w':World}{o:Obj}{row:Option Nat}(hg:(w.alloc o).grownBy w' row):w.grownBy w' row:=
 ⟨hg.os,hg.tape,hg.output,by have:=hg.size;simp at this;omega,λk hk hr=>by rw[hg.block k (by simp;omega) hr];exact Below.heap_alloc _ _ _ hk⟩
namespace Sp
section
variable{α β:Type}
def E3(r:Except (Nat×Nat) α):Prop:=∀e,r=.error e->e.1≠0
theorem E3.ok(x:α):E3 (.ok x):=λ_ h=>by cases h
theorem E3.err{r:Except (Nat×Nat) α}{e:Nat×Nat}(h:E3 r)(hr:r=.error e):E3 (.error e:Except (Nat×Nat) β):=λ_ k=>by cases k;exact h _ hr
theorem E3.bad(l:Bs):E3 (Sp.bad 2 l:Except (Nat×Nat) α):=λ_ h=>by cases h;simp
theorem E3.aaH(l:Bs):E3 (Sp.bad 3 l:Except (Nat×Nat) α):=λ_ h=>by cases h;simp
theorem ui(t l:Bs):E3 (take t l):=by
 unfold take;split
 .exact .ok _
 .exact .bad _
theorem CW(t:Bs)(o:Nat)(l:Bs):E3 (enter t o l):=by
 unfold enter;split
 .split
  .exact .aaH _
  .exact .ok _
 .exact .bad _
theorem Cw(l:Bs):E3 (dN l):=by
 unfold dN;split
 .exact .ok _
 .exact .bad _
theorem ON(A:fE)(lv:Nat)(part:Bs->R A.S)(h:∀l,E3 (part l)):∀m x l,E3 (bK A lv part m x l):=by
 intro m
 induction m with
 |zero=>intro x l;exact .ok _
 |succ m ih=>
  intro x l;unfold bK;split
  .split
   .split
    .exact ih _ _
    .exact(h _).err ‹_›
   .exact .ok _
  .exact .ok _
theorem J0(A:fE)(lv:Nat)(part:Bs->R A.S)(h:∀l,E3 (part l))(l:Bs):E3 (bS A lv part l):=by
 unfold bS;split
 .exact ON A lv part h _ _ _
 .exact(h _).err ‹_›
theorem OA(A:fE)(u:Bs->R A.S)(h:∀l,E3 (u l))(l:Bs):E3 (oI A u l):=J0 A 0 _ (λl=>J0 A 1 u h l) l
theorem Pm(A:fE):∀n o l,E3 (bp A n o l):=by
 intro n
 induction n with
 |zero=>intro o l;exact .bad _
 |succ n ih=>
  intro o l;unfold bp;split
  .split
   .exact .ok _
   .exact .bad _
  .split
   .split
    .exact .ok _
    .exact(Cw _).err ‹_›
   .split
    .split
     .split
      .exact .ok _
      .exact(ih _ _).err ‹_›
     .exact(CW _ _ _).err ‹_›
    .split
     .split
      .split
       .exact .ok _
       .exact(ui _ _).err ‹_›
      .exact(OA A _ (ih _) _).err ‹_›
     .exact(CW _ _ _).err ‹_›
theorem U3(A:fE)(o:Nat)(l:Bs):E3 (pS A o l):=OA A _ (Pm A _ _) l
theorem CH(A:fE)(o:Nat)(l:Bs):E3 (bo A o l):=by
 unfold bo;split
 .split
  .split
   .exact .ok _
   .exact(U3 _ _ _).err ‹_›
  .exact .bad _
 .exact(U3 _ _ _).err ‹_›
theorem JQ(A:fE)(st:Bs->R A.T)(h:∀l,E3 (st l)):∀m acc l,E3 (dh A st m acc l):=by
 intro m
 induction m with
 |zero=>intro x l;exact .ok _
 |succ m ih=>
  intro x l;unfold dh;split
  .split
   .exact ih _ _
   .exact(h _).err ‹_›
  .exact .ok _
theorem DT(A:fE)(st:Bs->R A.T)(h:∀l,E3 (st l))(o:Nat)(l:Bs):E3 (aR A st o l):=by
 unfold aR;split
 .split
  .split
   .exact .ok _
   .exact(ui _ _).err ‹_›
  .exact(JQ A st h _ _ _).err ‹_›
 .exact(CW _ _ _).err ‹_›
theorem LA(A:fE)(o:Nat)(l:Bs):E3 (cC A o l):=by
 unfold cC;split
 .split
  .split
   .split
    .exact .ok _
    .exact(ui _ _).err ‹_›
   .exact(U3 _ _ _).err ‹_›
  .exact(ui _ _).err ‹_›
 .exact(Cw _).err ‹_›
theorem Sk(A:fE)(l:Bs):E3 (gX A l):=by
 unfold gX;split
 .split
  .exact .ok _
  .exact(ui _ _).err ‹_›
 .exact(Cw _).err ‹_›
theorem Ly(A:fE)(o:Nat)(l:Bs):E3 (de A o l):=by
 unfold de;split
 .split
  .exact .ok _
  .exact(ui _ _).err ‹_›
 .exact(CH _ _ _).err ‹_›
theorem Yx(A:fE)(aV:Bs->R (List A.T))(h:∀l,E3 (aV l))(o:Nat)(l:Bs):E3 (Ð A aV o l):=by
 unfold Ð;split
 .split
  .split
   .split
    .exact .ok _
    .exact(h _).err ‹_›
   .exact .ok _
  .exact(h _).err ‹_›
 .exact(CH _ _ _).err ‹_›
theorem NC(A:fE)(aV:Bs->R (List A.T))(h:∀l,E3 (aV l))(o:Nat)(l:Bs):E3 (eF A aV o l):=by
 unfold eF;split
 .split
  .exact .ok _
  .exact(h _).err ‹_›
 .exact(CH _ _ _).err ‹_›
theorem RI(A:fE):∀n o l,E3 (bL A n o l):=by
 intro n
 induction n with
 |zero=>intro o l;exact .bad _
 |succ n ih=>
  intro o l;unfold bL;split
  .exact Sk A l
  .split
   .exact Ly A o l
   .split
    .exact Yx A _ (λl=>DT A _ (ih _) o l) o l
    .split
     .exact NC A _ (λl=>DT A _ (ih _) o l) o l
     .exact LA A o l
theorem RM(A:fE)(src:Bs):E3 (parse A src):=by
 unfold parse;split
 .intro e h;cases h;simp
 .have hp:E3 (pK A (skip src)):=by
   unfold pK;split
   .split
    .exact .ok _
    .exact .bad _
   .exact(JQ A _ (RI A _ _) _ _ _).err ‹_›
  split
  .exact .ok _
  .next e left hq=>intro e h;cases h;exactλk=>hp _ hq k
theorem SV(src:Bs):E3 (print src):=by
 unfold print;split
 .exact .ok _
 .exact(RM Pr src).err ‹_›
end
end Sp
theorem Gx(x:Value)(w:World):(Instr.typeAssert (σ 180 x) 274 180 true).run prog w=.ok (φ #[x,U true]) w:=Ã
theorem Ee(x:Value)(w:World):(Instr.typeAssert (σ 272 x) 274 180 true).run prog w=.ok (φ #[I ψ 0,U false]) w:=Ã
theorem nW(x:Value)(w:World):(Instr.typeAssert (σ 272 x) 274 272 true).run prog w=.ok (φ #[x,U true]) w:=Ã
theorem G8(x:Value)(w:World):(Instr.typeAssert (σ 351 x) 274 180 true).run prog w=.ok (φ #[I ψ 0,U false]) w:=Ã
theorem vL(x:Value)(w:World):(Instr.typeAssert (σ 351 x) 274 272 true).run prog w=.ok (φ #[I O 0,U false]) w:=Ã
theorem GH(x:Value)(w:World):(Instr.typeAssert (σ 351 x) 274 351 true).run prog w=.ok (φ #[x,U true]) w:=Ã
theorem IP(x:Value)(w:World):(Instr.typeAssert (σ 355 x) 274 180 true).run prog w=.ok (φ #[I ψ 0,U false]) w:=Ã
theorem pW(x:Value)(w:World):(Instr.typeAssert (σ 355 x) 274 272 true).run prog w=.ok (φ #[I O 0,U false]) w:=Ã
theorem GL(x:Value)(w:World):(Instr.typeAssert (σ 355 x) 274 351 true).run prog w=.ok (φ #[J #[.nilIface],U false]) w:=Ã
theorem Hn(x:Value)(w:World):(Instr.typeAssert (σ 355 x) 274 355 true).run prog w=.ok (φ #[x,U true]) w:=Ã
theorem Vf(x:Value)(w:World):(Instr.typeAssert (σ 276 x) 233 276 true).run prog w=.ok (φ #[x,U true]) w:=Ã
theorem Vq(x:Value)(w:World):(Instr.typeAssert (σ 279 x) 233 276 true).run prog w=.ok (φ #[J #[I O 0,I O 0,.nilIface],U false]) w:=Ã
theorem U9(x:Value)(w:World):(Instr.typeAssert (σ 279 x) 233 279 true).run prog w=.ok (φ #[x,U true]) w:=Ã
theorem Vw(x:Value)(w:World):(Instr.typeAssert (σ 284 x) 233 276 true).run prog w=.ok (φ #[J #[I O 0,I O 0,.nilIface],U false]) w:=Ã
theorem Wa(x:Value)(w:World):(Instr.typeAssert (σ 284 x) 233 279 true).run prog w=.ok (φ #[J #[I O 0,I O 0],U false]) w:=Ã
theorem Vp(x:Value)(w:World):(Instr.typeAssert (σ 284 x) 233 284 true).run prog w=.ok (φ #[x,U true]) w:=Ã
theorem Vz(x:Value)(w:World):(Instr.typeAssert (σ 287 x) 233 276 true).run prog w=.ok (φ #[J #[I O 0,I O 0,.nilIface],U false]) w:=Ã
theorem UL(x:Value)(w:World):(Instr.typeAssert (σ 287 x) 233 279 true).run prog w=.ok (φ #[J #[I O 0,I O 0],U false]) w:=Ã
theorem US(x:Value)(w:World):(Instr.typeAssert (σ 287 x) 233 284 true).run prog w=.ok (φ #[J #[I O 0,I O 0,I O 0,.nilIface,.nilIface],U false]) w:=Ã
theorem VE(x:Value)(w:World):(Instr.typeAssert (σ 287 x) 233 287 true).run prog w=.ok (φ #[x,U true]) w:=Ã
theorem U1(x:Value)(w:World):(Instr.typeAssert (σ 290 x) 233 276 true).run prog w=.ok (φ #[J #[I O 0,I O 0,.nilIface],U false]) w:=Ã
theorem Vj(x:Value)(w:World):(Instr.typeAssert (σ 290 x) 233 279 true).run prog w=.ok (φ #[J #[I O 0,I O 0],U false]) w:=Ã
theorem UY(x:Value)(w:World):(Instr.typeAssert (σ 290 x) 233 284 true).run prog w=.ok (φ #[J #[I O 0,I O 0,I O 0,.nilIface,.nilIface],U false]) w:=Ã
theorem Wc(x:Value)(w:World):(Instr.typeAssert (σ 290 x) 233 287 true).run prog w=.ok (φ #[J #[I O 0,I O 0,.nilIface,.nilIface,Z M 0 0,Z M 0 0,U false],U false]) w:=Ã
theorem Vu(x:Value)(w:World):(Instr.typeAssert (σ 290 x) 233 290 true).run prog w=.ok (φ #[x,U true]) w:=Ã
end Go.Proofs.YtiopfihjmkfdmabGreatDoor
