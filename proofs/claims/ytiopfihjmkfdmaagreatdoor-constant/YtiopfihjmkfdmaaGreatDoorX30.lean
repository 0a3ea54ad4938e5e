import Derived.Test.YtiopfihjmkfdmaaGreatDoorX26
import Derived.Test.YtiopfihjmkfdmaaGreatDoorX29
namespace Go.Proofs.YtiopfihjmkfdmaaGreatDoor
namespace WC
open Go.RowKit
set_option maxRecDepth 100000
set_option maxHeartbeats 400000
abbrev Par:=List Int
abbrev ST:=Option (Fin 8→Sp.Cg)
abbrev Dm (_:Par):Sp.Dom:=Sp.cgDom
abbrev Kr (π:Par):Sp.Rk (Dm π):=Sp.cgRk
theorem abs (π:Par):Sp.Ab (Kr π):=Sp.cgAb
abbrev Wv (x:Sp.Cg):Prop:=Sp.cgWf x
def vNum (n:Int):Sp.Cg:=⟨0,n⟩
def vWhole:Sp.Cg:=Sp.cgWhole
def vNeg:Sp.Cg→Sp.Cg:=Sp.cgNeg
def vWork:Nat→Sp.Cg→Sp.Cg→Option Sp.Cg:=Sp.cgWork
def vNought (x:Sp.Cg):Bool:=decide (Sp.cgMem x 0)
def vJoin:Sp.Cg→Sp.Cg→Sp.Cg:=Sp.cgJoin
def vMay:Nat→Sp.Cg→Sp.Cg→Bool:=Sp.cgMay
def vBound:Nat→Sp.Cg→Sp.Cg→Option Sp.Cg:=Sp.cgBound
def vWiden (_:Par) (_ y:Sp.Cg):Sp.Cg:=y
def vNarrow (x _:Sp.Cg):Sp.Cg:=x
def vTell (x:Sp.Cg):Int × Int:=((x.m:Nat),x.r)
def opV:Option Sp.Cg→Value
 | some x=>.tuple #[.agg #[.int .i64 ((x.m:Nat):Int),.int .i64 x.r],.bool true]
 | none=>.tuple #[.agg #[.int .i64 0,.int .i64 0],.bool false]
theorem opV_eq (o:Option Sp.Cg):optC o=opV o:=by cases o <;> rfl
def Does (B:Nat) (_:Par) (dv:Value) (w:World):Prop:=B≤w.heap.size∧dv=.agg #[]
theorem Does.below {B:Nat} {π:Par} {dv:Value} {w w':World} (h:Does B π dv w) (hb:Below B w w'):Does B π dv w':=⟨Nat.le_trans h.1 hb.size,h.2⟩
theorem Does.size {B:Nat} {π:Par} {dv:Value} {w:World} (h:Does B π dv w):B≤w.heap.size:=h.1
theorem dNumber {B:Nat} {π:Par} {dv:Value} {w:World} (h:Does B π dv w) (n:Int) (h1:-32768≤n) (h2:n≤32767) :
  Calls Tryz.prog 301 #[dv,.int .i16 n] w fun e w'=>e=.returned (.agg #[.int .i64 (((vNum n).m:Nat):Int),.int .i64 (vNum n).r])∧Below w.heap.size w w':=by
 obtain ⟨_,rfl⟩:=h
 exact cg_number n w h1 h2
theorem dWhole {B:Nat} {π:Par} {dv:Value} {w:World} (h:Does B π dv w) :
  Calls Tryz.prog 303 #[dv] w fun e w'=>e=.returned (.agg #[.int .i64 (((vWhole).m:Nat):Int),.int .i64 (vWhole).r])∧Below w.heap.size w w':=by
 obtain ⟨_,rfl⟩:=h
 exact cg_whole w
theorem dNegate {B:Nat} {π:Par} {dv:Value} {w:World} (h:Does B π dv w) {x:Sp.Cg} (hx:Wv x) :
  Calls Tryz.prog 300 #[dv,.agg #[.int .i64 ((x.m:Nat):Int),.int .i64 x.r]] w fun e w'=>e=.returned (.agg #[.int .i64 (((vNeg x).m:Nat):Int),.int .i64 (vNeg x).r])∧Below w.heap.size w w':=by
 obtain ⟨_,rfl⟩:=h
 exact cg_negate x w hx
theorem dWork {B:Nat} {π:Par} {dv:Value} {w:World} (h:Does B π dv w) {k:Nat} (hk:k<5) {x y:Sp.Cg} (hx:Wv x) (hy:Wv y) :
  Calls Tryz.prog 305 #[dv,.int .i64 (k:Nat),.agg #[.int .i64 ((x.m:Nat):Int),.int .i64 x.r],.agg #[.int .i64 ((y.m:Nat):Int),.int .i64 y.r]] w fun e w'=>e=.returned (opV (vWork k x y))∧Below w.heap.size w w':=by
 obtain ⟨_,rfl⟩:=h
 have:=cg_work_all k hk x y w hx hy
 rw [opV_eq] at this
 exact this
theorem dNought {B:Nat} {π:Par} {dv:Value} {w:World} (h:Does B π dv w) {x:Sp.Cg} (hx:Wv x) :
  Calls Tryz.prog 296 #[dv,.agg #[.int .i64 ((x.m:Nat):Int),.int .i64 x.r]] w fun e w'=>e=.returned (.bool (vNought x))∧Below w.heap.size w w':=by
 obtain ⟨_,rfl⟩:=h
 have:=cg_nought x.m x.r w
 rw [← Sp.nought_wf hx] at this
 exact this
theorem dJoin {B:Nat} {π:Par} {dv:Value} {w:World} (h:Does B π dv w) {x y:Sp.Cg} (hx:Wv x) (hy:Wv y) :
  Calls Tryz.prog 297 #[dv,.agg #[.int .i64 ((x.m:Nat):Int),.int .i64 x.r],.agg #[.int .i64 ((y.m:Nat):Int),.int .i64 y.r]] w fun e w'=>e=.returned (.agg #[.int .i64 (((vJoin x y).m:Nat):Int),.int .i64 (vJoin x y).r])∧Below w.heap.size w w':=by
 obtain ⟨_,rfl⟩:=h
 exact cg_join x y w (wf_small hx).1 (wf_small hx).2 (wf_small hy).1 (wf_small hy).2 hx
theorem dMay {B:Nat} {π:Par} {dv:Value} {w:World} (h:Does B π dv w) (_:Turns w) (_:11≤w.heap.size) {r:Nat} (hr:r<6) {x y:Sp.Cg} (hx:Wv x) (hy:Wv y) :
  Calls Tryz.prog 298 #[dv,.int .i64 (r:Nat),.agg #[.int .i64 ((x.m:Nat):Int),.int .i64 x.r],.agg #[.int .i64 ((y.m:Nat):Int),.int .i64 y.r]] w fun e w'=>e=.returned (.bool (vMay r x y))∧Below w.heap.size w w':=by
 obtain ⟨_,rfl⟩:=h
 exact cg_may r hr x y w hx hy
theorem dBound {B:Nat} {π:Par} {dv:Value} {w:World} (h:Does B π dv w) {r:Nat} (_:r<6) {x y:Sp.Cg} (hx:Wv x) (hy:Wv y) :
  Calls Tryz.prog 295 #[dv,.int .i64 (r:Nat),.agg #[.int .i64 ((x.m:Nat):Int),.int .i64 x.r],.agg #[.int .i64 ((y.m:Nat):Int),.int .i64 y.r]] w fun e w'=>e=.returned (opV (vBound r x y))∧Below w.heap.size w w':=by
 obtain ⟨_,rfl⟩:=h
 have:=cg_bound r x y w hx hy
 rw [opV_eq] at this
 exact this
theorem dWiden {B:Nat} {π:Par} {dv:Value} {w:World} (h:Does B π dv w) {x y:Sp.Cg} (_:Wv x) (_:Wv y) :
  Calls Tryz.prog 304 #[dv,.agg #[.int .i64 ((x.m:Nat):Int),.int .i64 x.r],.agg #[.int .i64 ((y.m:Nat):Int),.int .i64 y.r]] w fun e w'=>e=.returned (.agg #[.int .i64 (((vWiden π x y).m:Nat):Int),.int .i64 (vWiden π x y).r])∧Below w.heap.size w w':=by
 obtain ⟨_,rfl⟩:=h
 exact cg_widen x.m x.r y.m y.r w
theorem dNarrow {B:Nat} {π:Par} {dv:Value} {w:World} (h:Does B π dv w) {x y:Sp.Cg} (_:Wv x) (_:Wv y) :
  Calls Tryz.prog 299 #[dv,.agg #[.int .i64 ((x.m:Nat):Int),.int .i64 x.r],.agg #[.int .i64 ((y.m:Nat):Int),.int .i64 y.r]] w fun e w'=>e=.returned (.agg #[.int .i64 (((vNarrow x y).m:Nat):Int),.int .i64 (vNarrow x y).r])∧Below w.heap.size w w':=by
 obtain ⟨_,rfl⟩:=h
 exact cg_narrow x.m x.r y.m y.r w
theorem dTell {B:Nat} {π:Par} {dv:Value} {w:World} (h:Does B π dv w) {x:Sp.Cg} (_:Wv x) :
  Calls Tryz.prog 302 #[dv,.agg #[.int .i64 ((x.m:Nat):Int),.int .i64 x.r]] w fun e w'=>e=.returned (.agg #[.int .i64 (vTell x).1,.int .i64 (vTell x).2])∧Below w.heap.size w w':=by
 obtain ⟨_,rfl⟩:=h
 exact cg_tell x.m x.r w
end WC
end Go.Proofs.YtiopfihjmkfdmaaGreatDoor
namespace Go.Proofs.YtiopfihjmkfdmaaGreatDoor
open Go.RowKit
set_option maxRecDepth 100000
set_option maxHeartbeats 1000000
theorem setCells_block {b:Nat} {t:TypeId} {fr:Nat × Nat}:∀ (vs:List Value) (o:Nat) (w:World) (c:Array Value),w.heap[b]?=some (.cells c t fr)→o + vs.length≤c.size →
  ∃ c',(w.setCells b o vs).heap[b]?=some (.cells c' t fr)∧c'.size=c.size∧(∀ j,j<vs.length→c'[o + j]?=vs[j]?)∧∀ i,i<o∨o + vs.length≤i→c'[i]?=c[i]?
 | [],o,w,c,h,_=>⟨c,h,rfl,fun j hj=>by simp at hj,fun _ _=>rfl⟩
 | v :: vs,o,w,c,h,hs=>by
  simp only [List.length_cons] at hs
  obtain ⟨c',h1,h2,h3,h4⟩:=setCells_block vs (o + 1) (w.setCell ⟨b,o,none⟩ v) (c.setIfInBounds o v) (heap_setCell_at h o v) (by simp; omega)
  refine ⟨c',h1,by rw [h2]; simp,fun j hj=>?_,fun i hi=>?_⟩
  ·cases j with
   | zero =>
    rw [Nat.add_zero,h4 o (.inl (Nat.lt_succ_self _))]
    simp [Array.getElem?_setIfInBounds]
    omega
   | succ j =>
    have:=h3 j (by simp at hj; omega)
    rw [show o + (j + 1)=o + 1 + j by omega,this]
    simp
  ·rw [h4 i (by simp only [List.length_cons] at hi; omega),Array.getElem?_setIfInBounds]
   rw [if_neg (by simp only [List.length_cons] at hi; omega)]
theorem setCells_whole {w:World} {b:Nat} {c d:Array Value} {t:TypeId} {fr:Nat × Nat} (h:w.heap[b]?=some (.cells c t fr)) (hs:d.size=c.size):(w.setCells b 0 d.toList).heap[b]?=some (.cells d t fr):=by
 obtain ⟨c',h1,h2,h3,_⟩:=setCells_block d.toList 0 w c h (by simp; omega)
 rw [h1]
 congr 2
 refine Array.ext_getElem? fun i=>?_
 by_cases hi:i<d.size
 ·have:=h3 i (by simpa using hi)
  rw [Nat.zero_add] at this
  rw [this]; simp
 ·rw [Array.getElem?_eq_none (by omega),Array.getElem?_eq_none (by omega)]
theorem setCells_below {B b:Nat} (hb:B≤b):∀ (vs:List Value) (o:Nat) (w0 w:World),Below B w0 w→Below B w0 (w.setCells b o vs)
 | [],_,_,_,h=>h
 | v :: vs,o,w0,_,h=>setCells_below hb vs (o + 1) w0 _ (h.setCell (p:=⟨b,o,none⟩) hb v)
theorem setCells_other {b:Nat}:∀ (vs:List Value) (o:Nat) (w:World) (k:Nat),k ≠ b→(w.setCells b o vs).heap[k]?=w.heap[k]?
 | [],_,_,_,_=>rfl
 | v :: vs,o,w,k,hk=>by
  show ((w.setCell ⟨b,o,none⟩ v).setCells b (o + 1) vs).heap[k]?=_
  rw [setCells_other vs (o + 1) _ k hk,Below.heap_setCell _ _ _ _ hk]
section
variable {V : Type} (c0 c1 : V → Value)
def flat (l:List V):List Value:=l.flatMap fun v=>[c0 v,c1 v]
theorem flat_cons (v:V) (l:List V):flat c0 c1 (v :: l)=c0 v :: c1 v :: flat c0 c1 l:=rfl
theorem flat_len (l:List V):(flat c0 c1 l).length=2 * l.length:=by
 induction l with
 | nil=>rfl
 | cons v l ih=>rw [flat_cons]; simp only [List.length_cons,ih]; omega
theorem flat_get:∀ (l:List V) (j:Nat) (v:V),l[j]?=some v→(flat c0 c1 l)[j * 2]?=some (c0 v)∧(flat c0 c1 l)[j * 2 + 1]?=some (c1 v)
 | [],_,_,h=>by simp at h
 | u :: l,0,v,h=>by simp at h; subst h; exact ⟨rfl,rfl⟩
 | u :: l,j + 1,v,h=>by
  have:=flat_get l j v (by simpa using h)
  rw [flat_cons,show (j + 1) * 2=j * 2 + 2 by omega]
  exact this
theorem flat_set:∀ (l:List V) (j:Nat) (v:V),j<l.length→((flat c0 c1 l).set (j * 2) (c0 v)).set (j * 2 + 1) (c1 v)=flat c0 c1 (l.set j v)
 | [],_,_,h=>by simp at h
 | u :: l,0,v,_=>rfl
 | u :: l,j + 1,v,h=>by
  have:=flat_set l j v (by simpa using h)
  rw [flat_cons,show (j + 1) * 2=j * 2 + 2 by omega]
  simp only [List.set_cons_succ]
  rw [this]
  rfl
def stA (r:Bool) (l:List V):Array Value:=(Value.bool r :: flat c0 c1 l).toArray
theorem stA_size {r:Bool} {l:List V} (h:l.length=8):(stA c0 c1 r l).size=17:=by
 unfold stA; simp [flat_len,h]
theorem stA_get {r:Bool} {l:List V} {j:Nat} {v:V} (h:l[j]?=some v):(stA c0 c1 r l)[1 + j * 2]?=some (c0 v)∧(stA c0 c1 r l)[1 + j * 2 + 1]?=some (c1 v):=by
 obtain ⟨h1,h2⟩:=flat_get c0 c1 l j v h
 unfold stA
 rw [List.getElem?_toArray,List.getElem?_toArray,Nat.add_comm 1,show j * 2 + 1 + 1=(j * 2 + 1) + 1 by omega]
 exact ⟨h1,h2⟩
theorem stA_set {r:Bool} {l:List V} {j:Nat} (v:V) (h:j<l.length):((stA c0 c1 r l).setIfInBounds (1 + j * 2) (c0 v)).setIfInBounds (1 + j * 2 + 1) (c1 v)=stA c0 c1 r (l.set j v):=by
 unfold stA
 rw [List.setIfInBounds_toArray,List.setIfInBounds_toArray,← flat_set c0 c1 l j v h,Nat.add_comm 1]
 rfl
theorem stA_one (h0:∀ v,(c0 v).oneCell'=true) (h1:∀ v,(c1 v).oneCell'=true) (r:Bool) (l:List V):(stA c0 c1 r l).all (·.oneCell')=true:=by
 refine all_oneCell_toArray ?_
 intro v hv
 rcases List.mem_cons.1 hv with rfl | hv
 ·rfl
 ·unfold flat at hv
  obtain ⟨u,_,hu⟩:=List.mem_flatMap.1 hv
  simp at hu
  rcases hu with rfl | rfl
  ·exact h0 u
  ·exact h1 u
end
theorem range_of {W:World} {b:Nat} {c:Array Value} {t:TypeId} {fr:Nat × Nat} (h:W.heap[b]?=some (.cells c t fr)):W.rangeAt b 0 c.toList:=fun j u hu=>by rw [Nat.zero_add]; exact cell_of h j (by simpa using hu)
theorem there_of {W:World} {b:Nat} {c:Array Value} {t:TypeId} (h:W.heap[b]?=some (.cells c t)):W.there b 0 c.size:=fun j hj=>by
 rw [Nat.zero_add]
 refine ⟨?_,frozen_of h j⟩
 rw [cell_of h j (Array.getElem?_eq_getElem hj)]; rfl
theorem two_set {w:World} {k:Nat} {x y:Value} {t:TypeId} (h:w.heap[k]?=some (.cells #[x,y] t)) (u v:Value):((w.setCell ⟨k,0,none⟩ u).setCell ⟨k,1,none⟩ v).heap[k]?=some (.cells #[u,v] t):=heap_setCell_at (heap_setCell_at h 0 u) 1 v
theorem Below.two {B:Nat} {w0 w:World} (h:Below B w0 w) {k:Nat} (hk:B≤k) (u v:Value):Below B w0 ((w.setCell ⟨k,0,none⟩ u).setCell ⟨k,1,none⟩ v) :=
 (h.setCell (p:=⟨k,0,none⟩) hk u).setCell (p:=⟨k,1,none⟩) hk v
theorem modify_set' {α:Type} {l:List α} {q:Nat} {n:α} (h:l[q]?=some n) {f:α→α}:l.modify q f=l.set q (f n):=by
 refine List.ext_getElem? fun i=>?_
 rw [List.getElem?_modify,List.getElem?_set]
 by_cases hq:q=i
 ·subst hq
  obtain ⟨hl,he⟩:=List.getElem?_eq_some_iff.1 h
  simp [hl,he]
 ·simp [hq]
theorem modify_set {l:List Nat} {q n:Nat} (h:l[q]?=some n) {f:Nat→Nat}:l.modify q f=l.set q (f n):=by
 refine List.ext_getElem? fun i=>?_
 rw [List.getElem?_modify,List.getElem?_set]
 by_cases hq:q=i
 ·subst hq
  obtain ⟨hl,he⟩:=List.getElem?_eq_some_iff.1 h
  simp [hl,he]
 ·simp [hq]
end Go.Proofs.YtiopfihjmkfdmaaGreatDoor
namespace Go.Proofs.YtiopfihjmkfdmaaGreatDoor
namespace WC
open Go.RowKit
set_option maxRecDepth 100000
set_option maxHeartbeats 1000000
theorem infoSt:(Tryz.prog.info? 203).map (·.size)=some 17:=by kernel_rfl
theorem loadV_st {w:World} {b:Nat} {c:Array Value} {fr:Nat × Nat} (h:w.heap[b]?=some (.cells c 203 fr)) (hc:c.size=17) :
  (loadVar 203 ⟨b,0,none⟩).run Tryz.prog w=.ok (.agg c) w:=by
 have:=run_loadVar_mid (P:=Tryz.prog) w b 0 203 c.toList _ (fun j v hv=>by rw [Nat.zero_add]; exact cell_of h j (by simpa using hv)) Tryz.underlying203 rfl (by rw [infoSt]; simp [hc])
 simpa using this
theorem wp_ld {ops:Array Oper} {rest:List Oper} {op:Oper} {a:Act} {w:World} {Q:Exit→Act→World→Prop} (hgd:op.guard=none) (x:Operand) (ho:op.op=.load 203 x) {b:Nat} {c:Array Value} (hx:a.eval x=.pointer (some ⟨b,0,none⟩)) (h:w.heap[b]?=some (.cells c 203)) (hc:c.size=17)
  (k:wpList Tryz.prog ops Q rest (a.put op.dst (.agg c)) w):wpList Tryz.prog ops Q (op :: rest) a w:=by
 refine wpList_load_mid hgd 203 x ho b 0 hx c.toList _ (fun j v hv=>by rw [Nat.zero_add]; exact cell_of h j (by simpa using hv)) Tryz.underlying203 rfl (by rw [infoSt]; simp [hc]) ?_
 simpa using k
theorem wp_st {ops:Array Oper} {rest:List Oper} {op:Oper} {a:Act} {w:World} {Q:Exit→Act→World→Prop} (hgd:op.guard=none) (x y:Operand) (ho:op.op=.store 203 x y) {b:Nat} {c d:Array Value} (hx:a.eval x=.pointer (some ⟨b,0,none⟩)) (hy:a.eval y=.agg d) (h:w.heap[b]?=some (.cells c 203)) (hc:c.size=17) (hd:d.size=17) (h1:d.all (·.oneCell')=true)
  (k:wpList Tryz.prog ops Q rest (a.put op.dst undef) (w.setCells b 0 d.toList)):wpList Tryz.prog ops Q (op :: rest) a w :=
 wpList_store_mid hgd 203 x y ho b 0 d hx hy (fun j hj=>by
  rw [Nat.zero_add]
  refine ⟨?_,frozen_of h j⟩
  rw [cell_of h j (Array.getElem?_eq_getElem (by omega))]; rfl) (by rw [infoSt,hd]) h1 k
theorem results_st {fn:Func} {a:Tmp} (hres:fn.results=#[.cell a 203]) (tmps:Array Value) (w:World) {b:Nat} {c:Array Value} (ht:tmps.getD a undef=.pointer (some ⟨b,0,none⟩)) (h:w.heap[b]?=some (.cells c 203)) (hc:c.size=17) :
  (results fn tmps).run Tryz.prog w=.ok (.agg c) w:=by
 have hl:=loadV_st h hc
 have ht':tmps[a]?.getD undef=.pointer (some ⟨b,0,none⟩):=by rw [← ht]; simp
 unfold results
 rw [hres]
 simp [asAddr,ht',hl]
theorem join_none (W0 x y:Array Value) (w:World) (hx:x.size=17) (hy:y.size=17) (h1:y.all (·.oneCell')=true) (h0:∀ h,x[0]'h=.bool false) :
  Calls Tryz.prog 113 #[.agg W0,.agg x,.agg y] w fun e w'=>e=.returned (.agg y)∧Below w.heap.size w w':=by
 obtain ⟨k0,k1,k2,k3,kb⟩:=laid4b (w:=w) (o1:=.cells W0 200) (o2:=.cells x 203) (o3:=.cells y 203) (o4:=.cells #[.bool false,.int .i64 0,.int .i64 0,.int .i64 0,.int .i64 0,.int .i64 0,.int .i64 0,.int .i64 0,.int .i64 0,.int .i64 0,.int .i64 0,.int .i64 0,.int .i64 0,.int .i64 0,.int .i64 0,.int .i64 0,.int .i64 0] 203) (Below.refl _ _)
 have K2:Hid (_=_):=k2
 have K3:Hid (_=_):=k3
 have hr:Hid (_=_):=setCells_whole k3 (d:=y) (by rw [hy]; rfl)
 have HB:Hid (Below w.heap.size w _):=setCells_below (b:=w.heap.size + 1 + 1 + 1) (by omega) y.toList 0 w _ kb
 clear k0 k1 k2 k3 kb
 go_enter Tryz.func113,Tryz.ntmps113
 go_wp2_with (first
  | (refine wp_ld rfl _ rfl rfl K2.out hy ?_)
  | (refine wp_st rfl _ _ rfl rfl rfl K3.out rfl hy h1 ?_))
 refine bodyPost_ret (results_st Tryz.results113 _ _ rfl hr.out hy) rfl ⟨rfl,HB.out⟩
end WC
end Go.Proofs.YtiopfihjmkfdmaaGreatDoor
namespace Go.Proofs.YtiopfihjmkfdmaaGreatDoor
namespace WC
open Go.RowKit
set_option maxRecDepth 100000
set_option maxHeartbeats 1000000
def stI (r:Bool) (l:List Sp.Cg):Array Value:=stA (fun v:Sp.Cg=>.int .i64 ((v.m:Nat):Int)) (fun v:Sp.Cg=>.int .i64 v.r) r l
theorem stI_get {r:Bool} {l:List Sp.Cg} {j:Nat} {v:Sp.Cg} (h:l[j]?=some v):(stI r l)[1 + j * 2]?=some (.int .i64 ((v.m:Nat):Int))∧(stI r l)[1 + j * 2 + 1]?=some (.int .i64 v.r):=stA_get _ _ h
theorem stI_set {r:Bool} {l:List Sp.Cg} {j:Nat} (v:Sp.Cg) (h:j<l.length):((stI r l).setIfInBounds (1 + j * 2) (.int .i64 ((v.m:Nat):Int))).setIfInBounds (1 + j * 2 + 1) (.int .i64 v.r)=stI r (l.set j v):=stA_set (fun v:Sp.Cg=>.int .i64 ((v.m:Nat):Int)) (fun v:Sp.Cg=>.int .i64 v.r) v h
theorem stI_size {r:Bool} {l:List Sp.Cg} (h:l.length=8):(stI r l).size=17:=stA_size _ _ h
theorem stI_zero (r:Bool) (l:List Sp.Cg) (h:0<(stI r l).size):(stI r l)[0]=.bool r:=rfl
theorem stI_one (r:Bool) (l:List Sp.Cg):(stI r l).all (·.oneCell')=true:=stA_one _ _ (fun _=>rfl) (fun _=>rfl) r l
def noneI:Array Value:=#[.bool false,.int .i64 0,.int .i64 0,.int .i64 0,.int .i64 0,.int .i64 0,.int .i64 0,.int .i64 0,.int .i64 0,.int .i64 0,.int .i64 0,.int .i64 0,.int .i64 0,.int .i64 0,.int .i64 0,.int .i64 0,.int .i64 0]
structure EachAt (w:World) (l ys:List Sp.Cg) (W:World):Prop where
 x:W.heap[w.heap.size]?=some (.cells (stI true l) 203)
 y:W.heap[w.heap.size + 1]?=some (.cells (stI true ys) 203)
 z:W.heap[w.heap.size + 1 + 1]?=some (.cells noneI 203)
 b:Below w.heap.size w W
theorem EachAt.call {w:World} {l ys:List Sp.Cg} {W W':World} (h:EachAt w l ys W) (k:Below W.heap.size W W'):EachAt w l ys W' :=
 ⟨(k.block _ (heap_lt h.x)).trans h.x,(k.block _ (heap_lt h.y)).trans h.y,(k.block _ (heap_lt h.z)).trans h.z,h.b.trans (k.mono h.b.size)⟩
theorem EachAt.set {w:World} {l ys:List Sp.Cg} {W:World} (h:EachAt w l ys W) {j:Nat} (hj:j<l.length) (v:Sp.Cg):EachAt w (l.set j v) ys ((W.setCell ⟨w.heap.size,1 + j * 2,none⟩ (.int .i64 ((v.m:Nat):Int))).setCell ⟨w.heap.size,1 + j * 2 + 1,none⟩ (.int .i64 v.r)):=by
 refine ⟨?_,?_,?_,(h.b.setCell (p:=⟨w.heap.size,1 + j * 2,none⟩) (Nat.le_refl _) _).setCell (p:=⟨w.heap.size,1 + j * 2 + 1,none⟩) (Nat.le_refl _) _⟩
 ·rw [heap_setCell_at (heap_setCell_at h.x (1 + j * 2) (.int .i64 ((v.m:Nat):Int))) (1 + j * 2 + 1) (.int .i64 v.r),stI_set v hj]
 ·rw [Below.heap_setCell _ _ _ _ (by show w.heap.size + 1 ≠ w.heap.size; omega),Below.heap_setCell _ _ _ _ (by show w.heap.size + 1 ≠ w.heap.size; omega)]; exact h.y
 ·rw [Below.heap_setCell _ _ _ _ (by show w.heap.size + 1 + 1 ≠ w.heap.size; omega),Below.heap_setCell _ _ _ _ (by show w.heap.size + 1 + 1 ≠ w.heap.size; omega)]; exact h.z
theorem EachAt.cells {w:World} {l ys:List Sp.Cg} {W:World} (h:EachAt w l ys W) {j:Nat} {x:Sp.Cg} (hx:l[j]?=some x):W.cell? ⟨w.heap.size,1 + j * 2,none⟩=some (.int .i64 ((x.m:Nat):Int))∧W.cell? ⟨w.heap.size,1 + j * 2 + 1,none⟩=some (.int .i64 x.r)∧W.frozen? ⟨w.heap.size,1 + j * 2,none⟩=false∧W.frozen? ⟨w.heap.size,1 + j * 2 + 1,none⟩=false :=
 ⟨cell_of h.x _ (stI_get hx).1,cell_of h.x _ (stI_get hx).2,frozen_of h.x _,frozen_of h.x _⟩
def mixI (g:Sp.Cg→Sp.Cg→Sp.Cg) (xs ys:List Sp.Cg) (j:Nat):List Sp.Cg:=(List.zipWith g xs ys).take j ++ xs.drop j
theorem mixI_at {g:Sp.Cg→Sp.Cg→Sp.Cg} {xs ys:List Sp.Cg} (hx:xs.length=8) (hy:ys.length=8) {j:Nat} (hj:j<8) {x:Sp.Cg} (h:xs[j]?=some x):(mixI g xs ys j)[j]?=some x:=by
 have hl:((List.zipWith g xs ys).take j).length=j:=by simp; omega
 unfold mixI
 rw [List.getElem?_append_right (by omega),hl,Nat.sub_self,List.getElem?_drop,Nat.add_zero]
 exact h
theorem mixI_set {g:Sp.Cg→Sp.Cg→Sp.Cg} {xs ys:List Sp.Cg} (hx:xs.length=8) (hy:ys.length=8) {j:Nat} (hj:j<8) {x y:Sp.Cg} (h:xs[j]?=some x) (k:ys[j]?=some y):(mixI g xs ys j).set j (g x y)=mixI g xs ys (j + 1):=by
 have hl:((List.zipWith g xs ys).take j).length=j:=by simp; omega
 have hz:(List.zipWith g xs ys)[j]?=some (g x y):=by rw [List.getElem?_zipWith,h,k]
 have hk:=List.getElem?_eq_some_iff.1 hz
 have hd:xs.drop j=x :: xs.drop (j + 1):=by
  rw [List.drop_eq_getElem_cons (by omega),(List.getElem?_eq_some_iff.1 h).2]
 unfold mixI
 rw [List.set_append_right _ _ (by omega),hl,Nat.sub_self,hd,List.set_cons_zero,List.take_succ_eq_append_getElem hk.1,hk.2,List.append_assoc]
 rfl
theorem mixI_end {g:Sp.Cg→Sp.Cg→Sp.Cg} {xs ys:List Sp.Cg} (hx:xs.length=8) (hy:ys.length=8):mixI g xs ys 8=List.zipWith g xs ys:=by
 unfold mixI
 rw [List.take_of_length_le (by simp; omega),List.drop_of_length_le (by omega),List.append_nil]
theorem each_join (uD:Value) (g:Sp.Cg→Sp.Cg→Sp.Cg) (xs ys:List Sp.Cg) (w:World) (hx:xs.length=8) (hy:ys.length=8) (hwx:∀ x ∈ xs,Wv x) (hwy:∀ y ∈ ys,Wv y)
  (hput:∀ W x y,Below w.heap.size w W→Wv x→Wv y→Calls Tryz.prog 297 #[uD,.agg #[.int .i64 ((x.m:Nat):Int),.int .i64 x.r],.agg #[.int .i64 ((y.m:Nat):Int),.int .i64 y.r]] W fun e w'=>e=.returned (.agg #[.int .i64 (((g x y).m:Nat):Int),.int .i64 (g x y).r])∧Below W.heap.size W w') :
  Calls Tryz.prog 157 #[.agg (stI true xs),.agg (stI true ys),.func (Fn.method "Join") #[.iface 128 uD] #[]] w fun e w'=>e=.returned (.agg (stI true (List.zipWith g xs ys)))∧Below w.heap.size w w':=by
 have HP:Hid (_):=hput
 have zx:=stI_zero true xs
 have zy:=stI_zero true ys
 have H0:Hid (EachAt w xs ys (((w.alloc (.cells (stI true xs) 203)).alloc (.cells (stI true ys) 203)).alloc (.cells #[.bool false,.int .i64 0,.int .i64 0,.int .i64 0,.int .i64 0,.int .i64 0,.int .i64 0,.int .i64 0,.int .i64 0,.int .i64 0,.int .i64 0,.int .i64 0,.int .i64 0,.int .i64 0,.int .i64 0,.int .i64 0,.int .i64 0] 203))):=by
  obtain ⟨k0,k1,k2,kb⟩:=laid3b (w:=w) (o1:=.cells (stI true xs) 203) (o2:=.cells (stI true ys) 203) (o3:=.cells noneI 203) (Below.refl _ _)
  exact ⟨k0,k1,k2,kb⟩
 have sx:(stI true xs).size=17:=stI_size hx
 have sy:(stI true ys).size=17:=stI_size hy
 clear hput
 go_enter Tryz.func157,Tryz.ntmps157
 go_wp2_with fail
 go_loopw [17] (fun v17 wr=>∃ j:Nat,j≤8∧v17=.int .i64 j∧Hid (EachAt w (mixI g xs ys j) ys wr)) (fun v17 _=>8 - (intOf v17).toNat)
 case atStart=>exact ⟨0,Nat.zero_le _,rfl,H0.out⟩
 case round =>
  obtain ⟨j,hj,rfl,hq⟩:=hrel
  clear H0 zx zy sx sy
  by_cases hjlt:j<8
  ·obtain ⟨x,hxj⟩:∃ x,xs[j]?=some x:=⟨_,List.getElem?_eq_getElem (by omega)⟩
   obtain ⟨y,hyj⟩:∃ y,ys[j]?=some y:=⟨_,List.getElem?_eq_getElem (by omega)⟩
   have WX:Hid (Wv x):=hwx x (List.mem_of_getElem? hxj)
   have WY:Hid (Wv y):=hwy y (List.mem_of_getElem? hyj)
   have hmj:(mixI g xs ys j)[j]?=some x:=by
    exact mixI_at hx hy hjlt hxj
   have hml:(mixI g xs ys j).length=8:=by unfold mixI; simp; omega
   have hms:Hid ((mixI g xs ys j).set j (g x y)=mixI g xs ys (j + 1)):=mixI_set hx hy hjlt hxj hyj
   obtain ⟨x0,x1⟩:=stI_get (r:=true) hmj
   obtain ⟨y0,y1⟩:=stI_get (r:=true) hyj
   have cx0:=cell_of hq.out.x _ x0
   have cx1:=cell_of hq.out.x _ x1
   have cy0:=cell_of hq.out.y _ y0
   have cy1:=cell_of hq.out.y _ y1
   have hji:(j:Int)<8:=by omega
   clear x0 x1 y0 y1
   go_wp2_with fail
   go_region_with (go_at_call 297; go_must (refine (HP.out _ x y hq.out.b.drew WX.out WY.out).mono ?_); rintro e w1 ⟨rfl,b1⟩; have A1:Hid (EachAt w (mixI g xs ys j) ys w1):=hq.out.call (W':=w1) ⟨b1.os,b1.tape,b1.output,b1.size,b1.block⟩; obtain ⟨d0,d1,d2,d3⟩:=A1.out.cells hmj)
   all_goals
    have A2:Hid (EachAt w (mixI g xs ys (j + 1)) ys ((w1.setCell ⟨w.heap.size,1 + j * 2,none⟩ (.int .i64 (((g x y).m:Nat):Int))).setCell ⟨w.heap.size,1 + j * 2 + 1,none⟩ (.int .i64 (g x y).r))):=by
     unfold Hid; rw [← hms.out]; exact A1.out.set (by omega) (g x y)
    clear b1
    go_wp2_with fail
    exact ⟨⟨j + 1,by omega,by go_num,A2⟩,by simp [intOf]; omega⟩
  ·obtain rfl:j=8:=by omega
   have A:Hid (EachAt w (List.zipWith g xs ys) ys wr):=by unfold Hid; rw [← mixI_end hx hy]; exact hq.out
   have sz:(stI true (List.zipWith g xs ys)).size=17:=stI_size (by simp; omega)
   have hr:Hid (_=_):=setCells_whole A.out.z (d:=stI true (List.zipWith g xs ys)) (by rw [sz]; rfl)
   have HB:Hid (Below w.heap.size w _):=setCells_below (b:=w.heap.size + 1 + 1) (by omega) (stI true (List.zipWith g xs ys)).toList 0 w _ A.out.b
   clear hq hj hjlt
   go_wp2_with (first
    | (refine wp_ld rfl _ rfl rfl A.out.x sz ?_)
    | (refine wp_st rfl _ _ rfl rfl rfl A.out.z rfl sz (stI_one _ _) ?_))
   refine bodyPost_ret (results_st Tryz.results157 _ _ rfl hr.out sz) rfl ⟨rfl,HB.out⟩
end WC
end Go.Proofs.YtiopfihjmkfdmaaGreatDoor
namespace Go.Proofs.YtiopfihjmkfdmaaGreatDoor
namespace WC
open Go.RowKit
set_option maxRecDepth 100000
set_option maxHeartbeats 1000000
def wkA (dv:Value) (dom delay narrow unroll:Int) (th:Bool) (m:Nat) (f:Option Addr):Array Value :=
 #[.iface 128 dv,.int .i64 dom,.int .i64 delay,.int .i64 narrow,.int .i64 unroll,.bool th,.map (some m),.pointer f]
structure JoinAt (w:World) (wa xa ya:Array Value) (W:World):Prop where
 o:W.heap[w.heap.size]?=some (.cells wa 200)
 x:W.heap[w.heap.size + 1]?=some (.cells xa 203)
 y:W.heap[w.heap.size + 1 + 1]?=some (.cells ya 203)
 z:∃ c,c.size=17∧W.heap[w.heap.size + 1 + 1 + 1]?=some (.cells c 203)
 b:Below w.heap.size w W
theorem JoinAt.call {w:World} {wa xa ya:Array Value} {W W':World} (h:JoinAt w wa xa ya W) (k:Below W.heap.size W W'):JoinAt w wa xa ya W' :=
 ⟨(k.block _ (heap_lt h.o)).trans h.o,(k.block _ (heap_lt h.x)).trans h.x,(k.block _ (heap_lt h.y)).trans h.y,h.z.elim (fun c hc=>⟨c,hc.1,(k.block _ (heap_lt hc.2)).trans hc.2⟩),h.b.trans (k.mono h.b.size)⟩
theorem JoinAt.store {w:World} {wa xa ya d:Array Value} {W:World} (h:JoinAt w wa xa ya W) (hd:d.size=17):JoinAt w wa xa ya (W.setCells (w.heap.size + 1 + 1 + 1) 0 d.toList)∧(W.setCells (w.heap.size + 1 + 1 + 1) 0 d.toList).heap[w.heap.size + 1 + 1 + 1]?=some (.cells d 203):=by
 obtain ⟨c,hc,hz⟩:=h.z
 have h1:=setCells_whole hz (d:=d) (by omega)
 exact ⟨⟨(setCells_other _ _ _ _ (by omega)).trans h.o,(setCells_other _ _ _ _ (by omega)).trans h.x,(setCells_other _ _ _ _ (by omega)).trans h.y,⟨d,hd,h1⟩,setCells_below (by omega) _ _ _ _ h.b⟩,h1⟩
theorem join_both {B:Nat} {π:Par} (dv:Value) (dom delay narrow unroll:Int) (th:Bool) (m:Nat) (f:Option Addr) (xs ys:List Sp.Cg) (w:World) (hd:Does B π dv w) (hx:xs.length=8) (hy:ys.length=8) (hwx:∀ x ∈ xs,Wv x) (hwy:∀ y ∈ ys,Wv y) :
  Calls Tryz.prog 113 #[.agg (wkA dv dom delay narrow unroll th m f),.agg (stI true xs),.agg (stI true ys)] w fun e w'=>e=.returned (.agg (stI true (List.zipWith vJoin xs ys)))∧Below w.heap.size w w':=by
 have HDo:Hid (Does B π dv w):=hd
 have HE:Hid (∀ W,Below w.heap.size w W→Calls _ _ _ W _):=fun W b0=>each_join dv vJoin xs ys W hx hy hwx hwy (fun W' x y k wx wy=>dJoin ((HDo.out.below (b0.mono HDo.out.size)).below (k.mono (Nat.le_trans HDo.out.size b0.size))) wx wy)
 have zx:=stI_zero true xs
 have zy:=stI_zero true ys
 have sx:(stI true xs).size=17:=stI_size hx
 have sy:(stI true ys).size=17:=stI_size hy
 have H0:Hid (JoinAt w (wkA dv dom delay narrow unroll th m f) (stI true xs) (stI true ys) ((((w.alloc (.cells (wkA dv dom delay narrow unroll th m f) 200)).alloc (.cells (stI true xs) 203)).alloc (.cells (stI true ys) 203)).alloc (.cells #[.bool false,.int .i64 0,.int .i64 0,.int .i64 0,.int .i64 0,.int .i64 0,.int .i64 0,.int .i64 0,.int .i64 0,.int .i64 0,.int .i64 0,.int .i64 0,.int .i64 0,.int .i64 0,.int .i64 0,.int .i64 0,.int .i64 0] 203))):=by
  obtain ⟨k0,k1,k2,k3,kb⟩:=laid4b (w:=w) (o1:=.cells (wkA dv dom delay narrow unroll th m f) 200) (o2:=.cells (stI true xs) 203) (o3:=.cells (stI true ys) 203) (o4:=.cells noneI 203) (Below.refl _ _)
  exact ⟨k0,k1,k2,⟨_,rfl,k3⟩,kb⟩
 have hw0:(wkA dv dom delay narrow unroll th m f)[0]?=some (.iface 128 dv):=rfl
 generalize wkA dv dom delay narrow unroll th m f=wa at *
 go_enter Tryz.func113,Tryz.ntmps113
 go_wp2_with fail
 generalize (((w.alloc (.cells wa 200)).alloc (.cells (stI true xs) 203)).alloc (.cells (stI true ys) 203)).alloc (.cells #[.bool false,.int .i64 0,.int .i64 0,.int .i64 0,.int .i64 0,.int .i64 0,.int .i64 0,.int .i64 0,.int .i64 0,.int .i64 0,.int .i64 0,.int .i64 0,.int .i64 0,.int .i64 0,.int .i64 0,.int .i64 0,.int .i64 0] 203)=W at *
 have HD:Hid (JoinAt w wa (stI true xs) (stI true ys) W.drew):=H0.out.call (Below.refl _ _).drew
 have lz:(List.zipWith vJoin xs ys).length=8:=by simp; omega
 generalize hzs:List.zipWith vJoin xs ys=zs at *
 have ZS:Hid (List.zipWith vJoin xs ys=zs):=hzs
 clear hzs
 have sz:(stI true zs).size=17:=stI_size lz
 have hu:=Tryz.underlying203
 have hi1:(Tryz.prog.info? 203).map (·.size)=some (stI true xs).toList.length:=by rw [infoSt]; simp [sx]
 have hi2:(Tryz.prog.info? 203).map (·.size)=some (stI true ys).toList.length:=by rw [infoSt]; simp [sy]
 refine wp_region_held_drew (S:=fun w':World=>JoinAt w wa (stI true xs) (stI true ys) w') (by kernel_rfl) HD.out (fun hHeld=>?_)
 refine tky 0 rfl (yieldsIf_load_mid (by rfl) _ _ rfl _ _ rfl (stI true xs).toList _ (fun w' h=>range_of h.x) hu rfl hi1) hHeld ?_
 simp only [Act.put]
 refine tky 1 rfl (yieldsIf_load_mid (by rfl) _ _ rfl _ _ rfl (stI true ys).toList _ (fun w' h=>range_of h.y) hu rfl hi2) hHeld ?_
 simp only [Act.put]
 refine tk 2 (.pointer (some ⟨w.heap.size,0,none⟩)) rfl (fun w' h=>by go_simp) hHeld ?_
 simp only [Act.put]
 refine tk 3 (.iface 128 dv) rfl (fun w' h=>by have d0:=cell_of h.o 0 hw0; go_simp) hHeld ?_
 simp only [Act.put]
 refine tk 4 (.iface 128 dv) rfl (fun w' h=>by go_simp) hHeld ?_
 simp only [Act.put]
 refine tk 5 (.func (Fn.method "Join") #[.iface 128 dv] #[]) rfl (fun w' h=>by go_simp) hHeld ?_
 simp only [Act.put]
 refine wpAnyH_ready (rs:=[6]) (by kernel_rfl) (by simp) ?_
 refine AllReadyH.cons rfl (fun K hK=>?_) AllReadyH.nil
 go_simp
 refine (HE.out _ HD.out.b).mono ?_
 rintro e w1 ⟨rfl,b1⟩
 go_wp2_with fail
 refine hK.out _ _ (HD.out.call b1) (fun hHeld=>?_)
 obtain ⟨cz,hcz,hz⟩:=hHeld.z
 have hst:=hHeld.store sz
 have HS:Hid (_∧_):=hst
 have ht:w1.there (w.heap.size + 1 + 1 + 1) 0 (stI true zs).size:=by rw [sz,← hcz]; exact there_of hz
 have hi3:(Tryz.prog.info? 203).map (·.size)=some (stI true zs).size:=by rw [infoSt,sz]
 clear hK K hst hz b1
 refine wpAnyH_ready (rs:=[7]) (by kernel_rfl) (by simp) ?_
 refine AllReadyH.cons rfl (fun K hK=>?_) AllReadyH.nil
 rw [if_pos (by rfl)]
 refine wp_store_mid _ _ _ rfl _ _ (stI true zs) rfl rfl ht hi3 (stI_one true zs) ?_
 refine hK.out _ _ HS.out.1 (fun _=>?_)
 clear hK K
 refine wpAnyH_done (by kernel_rfl) ?_ _
 go_wp2_with fail
 refine bodyPost_ret (results_st Tryz.results113 _ _ rfl HS.out.2 sz) rfl ⟨?_,HS.out.1.b⟩
 rw [ZS.out]
theorem join_right (wa:Array Value) (xs:List Sp.Cg) (y:Array Value) (w:World) (hx:xs.length=8) (hy:y.size=17) (h0:∀ h,y[0]'h=.bool false) :
  Calls Tryz.prog 113 #[.agg wa,.agg (stI true xs),.agg y] w fun e w'=>e=.returned (.agg (stI true xs))∧Below w.heap.size w w':=by
 have zx:=stI_zero true xs
 have sx:(stI true xs).size=17:=stI_size hx
 have H0:Hid (JoinAt w wa (stI true xs) y ((((w.alloc (.cells wa 200)).alloc (.cells (stI true xs) 203)).alloc (.cells y 203)).alloc (.cells #[.bool false,.int .i64 0,.int .i64 0,.int .i64 0,.int .i64 0,.int .i64 0,.int .i64 0,.int .i64 0,.int .i64 0,.int .i64 0,.int .i64 0,.int .i64 0,.int .i64 0,.int .i64 0,.int .i64 0,.int .i64 0,.int .i64 0] 203))):=by
  obtain ⟨k0,k1,k2,k3,kb⟩:=laid4b (w:=w) (o1:=.cells wa 200) (o2:=.cells (stI true xs) 203) (o3:=.cells y 203) (o4:=.cells noneI 203) (Below.refl _ _)
  exact ⟨k0,k1,k2,⟨_,rfl,k3⟩,kb⟩
 obtain ⟨cz,hcz,hz⟩:=H0.out.z
 have HZ:Hid (_=_):=hz
 have HS:Hid (_∧_):=H0.out.store sx
 clear hz
 go_enter Tryz.func113,Tryz.ntmps113
 go_wp2_with (first
  | (refine wp_ld rfl _ rfl rfl H0.out.x sx ?_)
  | (refine wp_st rfl _ _ rfl rfl rfl HZ.out hcz sx (stI_one _ _) ?_))
 refine bodyPost_ret (results_st Tryz.results113 _ _ rfl HS.out.2 sx) rfl ⟨rfl,HS.out.1.b⟩
def stC (s:ST):Array Value:=match s with
 | none=>noneI
 | some e=>stI true (List.ofFn e)
theorem stC_size (s:ST):(stC s).size=17:=by
 cases s with
 | none=>rfl
 | some e=>exact stI_size (by simp)
theorem stC_one (s:ST):(stC s).all (·.oneCell')=true:=by
 cases s with
 | none=>exact stI_one false (List.replicate 8 ⟨0,0⟩)
 | some e=>exact stI_one _ _
theorem stC_zero (s:ST) (h:0<(stC s).size):(stC s)[0]=.bool s.isSome:=by
 cases s with
 | none=>rfl
 | some e=>rfl
theorem zip_ofFn (g:Sp.Cg→Sp.Cg→Sp.Cg) (e e':Fin 8→Sp.Cg):List.zipWith g (List.ofFn e) (List.ofFn e')=List.ofFn (fun k=>g (e k) (e' k)):=by
 refine List.ext_getElem? fun i=>?_
 rw [List.getElem?_zipWith,List.getElem?_ofFn,List.getElem?_ofFn,List.getElem?_ofFn]
 by_cases h:i<8
 ·simp [h]
 ·simp [h]
theorem jn_calls {B:Nat} {π:Par} (dv:Value) (dom delay narrow unroll:Int) (th:Bool) (m:Nat) (f:Option Addr) (s t u:ST) (w:World) (hd:Does B π dv w) (hu:Sp.jn (Dm π) s t=u) (hs:Sp.Wf (Kr π) s) (ht:Sp.Wf (Kr π) t) :
  Calls Tryz.prog 113 #[.agg (wkA dv dom delay narrow unroll th m f),.agg (stC s),.agg (stC t)] w fun e w'=>e=.returned (.agg (stC u))∧Below w.heap.size w w':=by
 subst hu
 cases s with
 | none=>exact join_none _ (stC none) (stC t) w rfl (stC_size t) (stC_one t) (stC_zero none)
 | some e =>
  cases t with
  | none=>exact join_right _ (List.ofFn e) (stC none) w (by simp) rfl (stC_zero none)
  | some e' =>
   have h:=join_both dv dom delay narrow unroll th m f (List.ofFn e) (List.ofFn e') w hd (by simp) (by simp) (fun x hx=>by obtain ⟨k,rfl⟩:=List.mem_ofFn.1 hx; exact hs _ rfl k) (fun x hx=>by obtain ⟨k,rfl⟩:=List.mem_ofFn.1 hx; exact ht _ rfl k)
   rw [zip_ofFn] at h
   exact h
end WC
end Go.Proofs.YtiopfihjmkfdmaaGreatDoor
