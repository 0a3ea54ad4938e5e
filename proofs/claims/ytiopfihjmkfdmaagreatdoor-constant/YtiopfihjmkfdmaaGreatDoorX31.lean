import Derived.Test.YtiopfihjmkfdmaaGreatDoorX30
namespace Go.Proofs.YtiopfihjmkfdmaaGreatDoor
namespace WC
open Go.RowKit
set_option maxRecDepth 100000
set_option maxHeartbeats 1000000
theorem infoWk:(Tryz.prog.info? 200).map (·.size)=some 8:=by kernel_rfl
theorem wp_ldW {ops:Array Oper} {rest:List Oper} {op:Oper} {a:Act} {w:World} {Q:Exit→Act→World→Prop} (hgd:op.guard=none) (x:Operand) (ho:op.op=.load 200 x) {b:Nat} {c:Array Value} (hx:a.eval x=.pointer (some ⟨b,0,none⟩)) (h:w.heap[b]?=some (.cells c 200)) (hc:c.size=8)
  (k:wpList Tryz.prog ops Q rest (a.put op.dst (.agg c)) w):wpList Tryz.prog ops Q (op :: rest) a w:=by
 refine wpList_load_mid hgd 200 x ho b 0 hx c.toList _ (fun j v hv=>by rw [Nat.zero_add]; exact cell_of h j (by simpa using hv)) Tryz.underlying200 rfl (by rw [infoWk]; simp [hc]) ?_
 simpa using k
theorem rd_st {op:Oper} {a:Act} {w:World} {K:Act→World→Prop} {Q:Exit→Act→World→Prop} (x:Operand) (ho:op.op=.load 203 x) {b o:Nat} (hx:a.eval x=.pointer (some ⟨b,o,none⟩)) {c:Array Value} (hr:w.rangeAt b o c.toList) (hc:c.size=17)
  (h:K (a.put op.dst (.agg c)) w):op.wp Tryz.prog a w K Q:=by
 refine wp_load_mid 203 x ho b o hx c.toList _ hr Tryz.underlying203 rfl (by rw [infoSt]; simp [hc]) ?_
 simpa using h
theorem wr_st {op:Oper} {a:Act} {w:World} {K:Act→World→Prop} {Q:Exit→Act→World→Prop} (x y:Operand) (ho:op.op=.store 203 x y) {b o:Nat} {c:Array Value} (hx:a.eval x=.pointer (some ⟨b,o,none⟩)) (hy:a.eval y=.agg c) (ht:w.there b o 17) (hc:c.size=17) (h1:c.all (·.oneCell')=true)
  (h:K (a.put op.dst undef) (w.setCells b o c.toList)):op.wp Tryz.prog a w K Q :=
 wp_store_mid 203 x y ho b o c hx hy (by rw [hc]; exact ht) (by rw [infoSt,hc]) h1 h
structure Cx where
 base:Nat
 dv:Value
 dom:Int
 delay:Nat
 narrow:Nat
 unroll:Nat
 th:Bool
 m:Nat
 fb:Nat
 gf:Nat
 gs:Nat
 cf:Nat
 cs:Nat
def Cx.pol (C:Cx):Sp.Pol:=⟨C.delay,C.narrow,C.unroll⟩
def wk (C:Cx) (b:Bool):Array Value:=wkA C.dv C.dom C.delay C.narrow C.unroll C.th C.m (if b then some ⟨C.fb,0,none⟩ else none)
theorem wk_size (C:Cx) (b:Bool):(wk C b).size=8:=rfl
theorem wk_zero (C:Cx) (b:Bool):(wk C b)[0]?=some (.iface 128 C.dv):=rfl
theorem wk_seven (C:Cx) (b:Bool):(wk C b)[7]?=some (.pointer (if b then some ⟨C.fb,0,none⟩ else none)):=rfl
theorem wk_six (C:Cx) (b:Bool):(wk C b)[6]?=some (.map (some C.m)):=rfl
abbrev Fd:=List ST × List Nat
abbrev TelT:=Sp.Tel Sp.Cg
abbrev Tab:=Int→ST→List TelT × ST
def factCells (fs:List ST):List Value:=fs.flatMap fun s=>(stC s).toList
def siteCells (l:List Nat):List Value:=l.map fun n=>.int .i64 ((n:Nat):Int)
def keyA (p:Int) (s:ST):Array Value:=#[.int .i64 p] ++ stC s
def pasA (t:ST) (told:Bool):Array Value:=(stC t).push (.bool told)
def MemoE (π:Par) (T:Tab) (F:Fd) (x:MapEntry):Prop :=
 ∃ p s t told,x.key=.agg (keyA p s)∧x.val=.agg (pasA t told)∧Sp.Wf (Kr π) s∧(0≤p∧p≤1000000)∧(T p s).2=t∧(told=true→Sp.ToldAll (Kr π) F (T p s).1)
structure AnAt (C:Cx) (π:Par) (T:Tab) (F:Fd) (w:World):Prop where
 hfb:w.heap[C.fb]?=some (.cells #[.slice (some ⟨C.gf,0,none⟩) F.1.length C.cf,.slice (some ⟨C.gs,0,none⟩) F.2.length C.cs] 198)
 hgf:w.heap[C.gf]?=some (.cells (factCells F.1).toArray 203)
 hgs:w.heap[C.gs]?=some (.cells (siteCells F.2).toArray 3)
 memo:∃ es cl,w.heap[C.m]?=some (.map es cl)∧∀ x ∈ es.toList,MemoE π T F x
 does:Does C.base π C.dv w
 turns:Turns w
 big:11≤C.base
 bfb:C.base≤C.fb
 bgf:C.base≤C.gf
 bgs:C.base≤C.gs
 bm:C.base≤C.m
 wfF:Sp.WfF (Kr π) F
structure AKeep (C:Cx) (w w':World):Prop where
 below:Below C.base w w'
 others:∀ k,k<w.heap.size→k ≠ C.gf→k ≠ C.gs→k ≠ C.m→w'.heap[k]?=w.heap[k]?
theorem AKeep.refl (C:Cx) (w:World):AKeep C w w:=⟨Below.refl _ _,fun _ _ _ _ _=>rfl⟩
theorem AKeep.trans {C:Cx} {w1 w2 w3:World} (h:AKeep C w1 w2) (k:AKeep C w2 w3):AKeep C w1 w3 :=
 ⟨h.below.trans k.below,fun i hi h1 h2 h3=>by rw [k.others i (Nat.lt_of_lt_of_le hi h.below.size) h1 h2 h3,h.others i hi h1 h2 h3]⟩
theorem AKeep.of_below {C:Cx} {w w':World} (h:Below w.heap.size w w') (hB:C.base≤w.heap.size):AKeep C w w':=⟨h.mono hB,fun k hk _ _ _=>h.block k hk⟩
theorem AKeep.more {C:Cx} {w w1 w2:World} (h:AKeep C w w1) (k:Below w1.heap.size w1 w2) (hB:C.base≤w.heap.size):AKeep C w w2 :=
 h.trans (AKeep.of_below k (Nat.le_trans hB h.below.size))
theorem AKeep.cell {C:Cx} {w w':World} (h:AKeep C w w') {π:Par} {T:Tab} {F:Fd} (ha:AnAt C π T F w) {k:Nat} {c:Array Value} {e:TypeId} {fz:Nat × Nat} (hk:w.heap[k]?=some (.cells c e fz)) (h1:k ≠ C.gf) (h2:k ≠ C.gs):w'.heap[k]?=some (.cells c e fz):=by
 rw [h.others k (heap_lt hk) h1 h2 (fun e'=>?_)]
 ·exact hk
 ·obtain ⟨es,cl,hm,_⟩:=ha.memo
  rw [← e',hk] at hm
  cases hm
theorem AnAt.lt {C:Cx} {π:Par} {T:Tab} {F:Fd} {w:World} (h:AnAt C π T F w):C.fb<w.heap.size∧C.gf<w.heap.size∧C.gs<w.heap.size∧C.m<w.heap.size:=by
 obtain ⟨es,cl,hm,_⟩:=h.memo
 exact ⟨heap_lt h.hfb,heap_lt h.hgf,heap_lt h.hgs,heap_lt hm⟩
theorem AnAt.le {C:Cx} {π:Par} {T:Tab} {F:Fd} {w:World} (h:AnAt C π T F w):C.base≤w.heap.size:=by
 have:=h.lt.1; have:=h.bfb; omega
theorem AnAt.gsize {C:Cx} {π:Par} {T:Tab} {F:Fd} {w:World} (h:AnAt C π T F w):11≤w.heap.size:=Nat.le_trans h.big h.le
theorem AnAt.call {C:Cx} {π:Par} {T:Tab} {F:Fd} {w w':World} (h:AnAt C π T F w) (k:Below w.heap.size w w'):AnAt C π T F w':=by
 have hl:=h.lt
 obtain ⟨es,cl,hm,hE⟩:=h.memo
 exact ⟨(k.block _ hl.1).trans h.hfb,(k.block _ hl.2.1).trans h.hgf,(k.block _ hl.2.2.1).trans h.hgs,⟨es,cl,(k.block _ hl.2.2.2).trans hm,hE⟩,h.does.below (k.mono h.le),h.turns.below k h.gsize,h.big,h.bfb,h.bgf,h.bgs,h.bm,h.wfF⟩
def told (π:Par) (b:Bool) (F:Fd) (es:List TelT):Fd:=if b then Sp.tell (Dm π) F es else F
theorem told_nil (π:Par) (b:Bool) (F:Fd):told π b F []=F:=by cases b <;> rfl
theorem told_append (π:Par) (b:Bool) (F:Fd) (es es':List TelT):told π b F (es ++ es')=told π b (told π b F es) es':=by
 cases b
 ·rfl
 ·exact List.foldl_append
def InF (F:Fd):TelT→Prop
 | .point p _=>0≤p∧p.toNat<F.1.length
 | .site q _=>0≤q∧q.toNat<F.2.length
def Rng (b:Bool) (F:Fd) (es:List TelT):Prop:=b=true→∀ ev ∈ es,InF F ev
theorem Rng.left {b:Bool} {F:Fd} {es es':List TelT} (h:Rng b F (es ++ es')):Rng b F es:=fun hb ev hv=>h hb ev (List.mem_append.2 (.inl hv))
theorem told1_len (π:Par) (F:Fd) (x:TelT):(Sp.tell1 (Dm π) F x).1.length=F.1.length∧(Sp.tell1 (Dm π) F x).2.length=F.2.length:=by
 cases x with
 | point p s=>exact ⟨List.length_modify ..,rfl⟩
 | site q b=>exact ⟨rfl,List.length_modify ..⟩
theorem tell_len (π:Par):∀ (es:List TelT) (F:Fd),(Sp.tell (Dm π) F es).1.length=F.1.length∧(Sp.tell (Dm π) F es).2.length=F.2.length
 | [],_=>⟨rfl,rfl⟩
 | x :: es,F=>by
  obtain ⟨h1,h2⟩:=tell_len π es (Sp.tell1 (Dm π) F x)
  obtain ⟨h3,h4⟩:=told1_len π F x
  exact ⟨h1.trans h3,h2.trans h4⟩
theorem told_len (π:Par) (b:Bool) (F:Fd) (es:List TelT):(told π b F es).1.length=F.1.length∧(told π b F es).2.length=F.2.length:=by
 cases b
 ·exact ⟨rfl,rfl⟩
 ·exact tell_len π es F
theorem InF.told {π:Par} {b:Bool} {F:Fd} {es:List TelT} {x:TelT} (h:InF F x):InF (told π b F es) x:=by
 obtain ⟨h1,h2⟩:=told_len π b F es
 cases x with
 | point p s=>exact ⟨h.1,by rw [h1]; exact h.2⟩
 | site q b=>exact ⟨h.1,by rw [h2]; exact h.2⟩
theorem Rng.right {π:Par} {b:Bool} {F:Fd} {es es':List TelT} (h:Rng b F (es ++ es')):Rng b (WC.told π b F es) es':=fun hb ev hv=>(h hb ev (List.mem_append.2 (.inr hv))).told
theorem rng_false (F:Fd) (es:List TelT):Rng false F es:=fun h=>by cases h
def Post (C:Cx) (π:Par) (T:Tab) (F:Fd) (b:Bool) (w:World) (es:List TelT) (u:ST) (e:Ending) (w':World):Prop :=
 e=.returned (.agg (stC u))∧AnAt C π T (told π b F es) w'∧AKeep C w w'
theorem memoE_grow {π:Par} {T:Tab} {F:Fd} {x:MapEntry} (h:MemoE π T F x) (es:List TelT):MemoE π T (Sp.tell (Dm π) F es) x:=by
 obtain ⟨p,s,t,d,h1,h2,h3,h4,h5,h6⟩:=h
 exact ⟨p,s,t,d,h1,h2,h3,h4,h5,fun hd=>(h6 hd).grow es⟩
theorem AnAt.ne {C:Cx} {π:Par} {T:Tab} {F:Fd} {w:World} (h:AnAt C π T F w):C.fb ≠ C.gf∧C.fb ≠ C.gs∧C.gf ≠ C.gs∧C.m ≠ C.gf∧C.m ≠ C.gs∧C.fb ≠ C.m:=by
 obtain ⟨es,cl,hm,_⟩:=h.memo
 have h1:=h.hfb
 have h2:=h.hgf
 have h3:=h.hgs
 refine ⟨fun e=>?_,fun e=>?_,fun e=>?_,fun e=>?_,fun e=>?_,fun e=>?_⟩
 ·rw [e,h2] at h1; injection h1 with h1; injection h1 with _ h1 _; exact absurd h1 (by decide)
 ·rw [e,h3] at h1; injection h1 with h1; injection h1 with _ h1 _; exact absurd h1 (by decide)
 ·rw [e,h3] at h2; injection h2 with h2; injection h2 with _ h2 _; exact absurd h2 (by decide)
 ·rw [e,h2] at hm; cases hm
 ·rw [e,h3] at hm; cases hm
 ·rw [e,hm] at h1; cases h1
theorem siteCells_get {l:List Nat} {q n:Nat} (h:l[q]?=some n):(siteCells l).toArray[q]?=some (.int .i64 ((n:Nat):Int)):=by
 rw [List.getElem?_toArray]
 unfold siteCells
 rw [List.getElem?_map,h]
 rfl
theorem AnAt.site {C:Cx} {π:Par} {T:Tab} {F:Fd} {w:World} (h:AnAt C π T F w) {q n:Nat} (hq:F.2[q]?=some n) (bad:Bool) :
  AnAt C π T (Sp.tell1 (Dm π) F (.site (q:Int) bad)) (w.setCell ⟨C.gs,q,none⟩ (.int .i64 ((max n (if bad then 2 else 1):Nat):Int)))∧AKeep C w (w.setCell ⟨C.gs,q,none⟩ (.int .i64 ((max n (if bad then 2 else 1):Nat):Int))):=by
 obtain ⟨n1,n2,n3,n4,n5,n6⟩:=h.ne
 obtain ⟨es,cl,hm,hE⟩:=h.memo
 have hk:AKeep C w (w.setCell ⟨C.gs,q,none⟩ (.int .i64 ((max n (if bad then 2 else 1):Nat):Int))) :=
  ⟨(Below.refl _ _).setCell (p:=⟨C.gs,q,none⟩) h.bgs _,fun k _ _ k2 _=>Below.heap_setCell _ _ _ _ k2⟩
 have ht:Sp.tell1 (Dm π) F (.site (q:Int) bad)=(F.1,F.2.set q (max n (if bad then 2 else 1))):=by
  show (F.1,F.2.modify (q:Int).toNat _)=_
  rw [show ((q:Int)).toNat=q by simp,modify_set hq]
 refine ⟨?_,hk⟩
 have hE':∀ x ∈ es.toList,MemoE π T (Sp.tell1 (Dm π) F (.site (q:Int) bad)) x:=fun x hx=>memoE_grow (hE x hx) [.site (q:Int) bad]
 have hW:Sp.WfF (Kr π) (Sp.tell1 (Dm π) F (.site (q:Int) bad)):=Sp.wfF_tell1 h.wfF trivial
 rw [ht] at hE' hW ⊢
 refine ⟨?_,(Below.heap_setCell _ _ _ _ n3).trans h.hgf,?_,⟨es,cl,(Below.heap_setCell _ _ _ _ n5).trans hm,hE'⟩,h.does.below hk.below,h.turns.below hk.below h.big,h.big,h.bfb,h.bgf,h.bgs,h.bm,hW⟩
 ·rw [Below.heap_setCell _ _ _ _ n2]
  simp only [List.length_set]
  exact h.hfb
 ·rw [heap_setCell_at h.hgs q _]
  congr 2
  unfold siteCells
  simp [List.map_set]
theorem stC_len (s:ST):(stC s).toList.length=17:=by rw [Array.length_toList]; exact stC_size s
theorem AnAt.point {C:Cx} {π:Par} {T:Tab} {F:Fd} {w:World} (h:AnAt C π T F w) {p:Nat} {f u:ST} (hp:F.1[p]?=some f) {e:Fin 8→Sp.Cg} (hu:Sp.jn (Dm π) f (some e)=u) (he:∀ k,(Kr π).wf (e k)) :
  AnAt C π T (Sp.tell1 (Dm π) F (.point (p:Int) e)) (w.setCells C.gf (p * 17) (stC u).toList)∧AKeep C w (w.setCells C.gf (p * 17) (stC u).toList):=by
 obtain ⟨n1,n2,n3,n4,n5,n6⟩:=h.ne
 obtain ⟨es,cl,hm,hE⟩:=h.memo
 have hk:AKeep C w (w.setCells C.gf (p * 17) (stC u).toList) :=
  ⟨setCells_below h.bgf _ _ _ _ (Below.refl _ _),fun k _ k1 _ _=>setCells_other _ _ _ _ k1⟩
 have hpl:p<F.1.length:=(List.getElem?_eq_some_iff.1 hp).1
 have ht:Sp.tell1 (Dm π) F (.point (p:Int) e)=(F.1.set p u,F.2):=by
  have:=modify_set' (f:=fun f=>Sp.jn (Dm π) f (some e)) hp
  exact Prod.ext (show F.1.modify ((p:Int)).toNat _=F.1.set p u from by rw [show ((p:Int)).toNat=p by simp]; exact this.trans (congrArg (F.1.set p) hu)) rfl
 refine ⟨?_,hk⟩
 have hE':∀ x ∈ es.toList,MemoE π T (Sp.tell1 (Dm π) F (.point (p:Int) e)) x:=fun x hx=>memoE_grow (hE x hx) [.point (p:Int) e]
 have hW:Sp.WfF (Kr π) (Sp.tell1 (Dm π) F (.point (p:Int) e)):=Sp.wfF_tell1 h.wfF he
 rw [ht] at hE' hW ⊢
 refine ⟨?_,?_,(setCells_other _ _ _ _ (Ne.symm n3)).trans h.hgs,⟨es,cl,(setCells_other _ _ _ _ n4).trans hm,hE'⟩,h.does.below hk.below,h.turns.below hk.below h.big,h.big,h.bfb,h.bgf,h.bgs,h.bm,hW⟩
 ·rw [setCells_other _ _ _ _ n1]
  simp only [List.length_set]
  exact h.hfb
 ·obtain ⟨c',h1,h2,h3,h4⟩:=setCells_block (stC u).toList (p * 17) w (factCells F.1).toArray h.hgf (by
   rw [stC_len,List.size_toArray]
   unfold factCells
   rw [chunk_len stC_len]
   have:(p + 1) * 17≤F.1.length * 17:=Nat.mul_le_mul_right _ hpl
   omega)
  rw [h1]
  have e:c'=(factCells (F.1.set p u)).toArray:=by
   refine Array.ext_getElem? fun i=>?_
   have e2:(factCells (F.1.set p u)).toArray[i]?=((F.1.set p u).flatMap fun s=>(stC s).toList)[i]?:=List.getElem?_toArray
   rw [e2]
   rw [chunk_set stC_len F.1 p u i hpl]
   by_cases hi:p * 17≤i∧i<p * 17 + 17
   ·rw [if_pos hi]
    have:=h3 (i - p * 17) (by rw [stC_len]; omega)
    rw [show p * 17 + (i - p * 17)=i by omega] at this
    exact this
   ·rw [if_neg hi,h4 i (by rw [stC_len]; omega),List.getElem?_toArray]
    rfl
  rw [e]
theorem AnAt.fact {C:Cx} {π:Par} {T:Tab} {F:Fd} {w:World} (h:AnAt C π T F w) {p:Nat} {f:ST} (hp:F.1[p]?=some f):w.rangeAt C.gf (p * 17) (stC f).toList:=by
 intro j v hv
 have hj:j<17:=by
  have:=(List.getElem?_eq_some_iff.1 hv).1
  rw [stC_len] at this
  exact this
 refine cell_of h.hgf _ ?_
 rw [List.getElem?_toArray]
 show (F.1.flatMap fun s=>(stC s).toList)[p * 17 + j]?=some v
 rw [chunk_get stC_len F.1 p f j hp hj]
 exact hv
theorem AnAt.factThere {C:Cx} {π:Par} {T:Tab} {F:Fd} {w:World} (h:AnAt C π T F w) {p:Nat} (hp:p<F.1.length):w.there C.gf (p * 17) 17:=by
 intro j hj
 refine ⟨?_,frozen_of h.hgf _⟩
 have hl:p * 17 + j<(factCells F.1).toArray.size:=by
  rw [List.size_toArray]
  unfold factCells
  rw [chunk_len stC_len]
  have:(p + 1) * 17≤F.1.length * 17:=Nat.mul_le_mul_right _ hp
  omega
 rw [cell_of h.hgf _ (Array.getElem?_eq_getElem hl)]
 rfl
theorem AnAt.upon {C:Cx} {π:Par} {T:Tab} {F0 F:Fd} {w0 w W:World} (h0:AnAt C π T F0 w0) (h:AnAt C π T F w) (k:Below w0.heap.size w W):AnAt C π T F W:=by
 have hl:=h0.lt
 obtain ⟨es,cl,hm,hE⟩:=h.memo
 exact ⟨(k.block _ hl.1).trans h.hfb,(k.block _ hl.2.1).trans h.hgf,(k.block _ hl.2.2.1).trans h.hgs,⟨es,cl,(k.block _ hl.2.2.2).trans hm,hE⟩,h.does.below (k.mono h0.le),h.turns.below k h0.gsize,h.big,h.bfb,h.bgf,h.bgs,h.bm,h.wfF⟩
theorem AKeep.upon {C:Cx} {π:Par} {T:Tab} {F0:Fd} {w0 w W:World} (h0:AnAt C π T F0 w0) (h:AKeep C w0 w) (k:Below w0.heap.size w W):AKeep C w0 W :=
 ⟨h.below.trans (k.mono h0.le),fun i hi h1 h2 h3=>(k.block i hi).trans (h.others i hi h1 h2 h3)⟩
theorem AKeep.mine {C:Cx} {π:Par} {T:Tab} {F0:Fd} {w0 w W:World} (h0:AnAt C π T F0 w0) (h:AKeep C w W) {k:Nat} (hk:w0.heap.size≤k) {o:Obj} (ho:w.heap[k]?=some o):W.heap[k]?=some o:=by
 have hl:=h0.lt
 have hlt:k<w.heap.size:=by
  rcases Nat.lt_or_ge k w.heap.size with h | h
  ·exact h
  ·rw [Array.getElem?_eq_none h] at ho; cases ho
 rw [h.others k hlt (by omega) (by omega) (by omega)]
 exact ho
end WC
end Go.Proofs.YtiopfihjmkfdmaaGreatDoor
namespace Go.Proofs.YtiopfihjmkfdmaaGreatDoor
namespace WC
open Go.RowKit
set_option maxRecDepth 100000
set_option maxHeartbeats 1000000
theorem two_other {w:World} {k j:Nat} {o:Obj} (hne:j ≠ k) (h:w.heap[j]?=some o) (u v:Value):((w.setCell ⟨k,0,none⟩ u).setCell ⟨k,1,none⟩ v).heap[j]?=some o:=by
 rw [Below.heap_setCell _ _ _ _ (show j ≠ (⟨k,1,none⟩:Addr).block from hne),Below.heap_setCell _ _ _ _ (show j ≠ (⟨k,0,none⟩:Addr).block from hne)]
 exact h
def SumPost (C:Cx) (π:Par) (T:Tab) (F:Fd) (b:Bool) (w:World) (es:List TelT) (o:Option Sp.Cg) (r:Ending) (w':World):Prop :=
 r=.returned (opV o)∧AnAt C π T (told π b F es) w'∧AKeep C w w'
def SumAn (v:Value) (x:Sp.Sm) (ct:Sp.Ct):Prop :=
 ∀ (C:Cx) (π:Par) (T:Tab) (F:Fd) (b:Bool) (w:World) (e:Fin 8→Sp.Cg),AnAt C π T F w→(∀ k,Wv (e k))→Rng b F (Sp.anS (Dm π) x ct e).1 →
  Calls Tryz.prog 193 #[.agg (wk C b),v,.agg (stC (some e))] w (SumPost C π T F b w (Sp.anS (Dm π) x ct e).1 (Sp.anS (Dm π) x ct e).2)
theorem num_an (n:Nat) (ct:Sp.Ct) (hn:n≤32767):SumAn (.iface 226 (.int .i16 n)) (.num n) ct:=by
 intro C π T F b w e h he hr
 have h1:=ta_num_num (.int .i16 n)
 show Calls _ _ _ w (SumPost C π T F b w [] (some (vNum n)))
 have hw0:=wk_zero C b
 generalize wk C b=wa at *
 generalize stC (some e)=xa at *
 obtain ⟨k0,k1,k2,kb⟩:=laid3b (w:=w) (o1:=.cells wa 200) (o2:=.cells xa 203) (o3:=.cells #[.int .i64 0,.int .i64 0] 126) (Below.refl _ _)
 have d0:=cell_of k0 0 hw0
 have HN:=dNumber ((h.does.below (kb.mono h.le))) (n:Int) (by omega) (by omega)
 have HB:Hid (Below w.heap.size w _):=kb
 have HZ:Hid (_=_):=k2
 have HA:Hid (AnAt C π T F w):=h
 clear h k0 k1 k2 kb hr
 go_enter Tryz.func193,Tryz.ntmps193
 go_wp2_with fail
 refine HN.mono ?_
 rintro r w1 ⟨rfl,b1⟩
 have hz1:=(b1.block _ (heap_lt HZ.out)).trans HZ.out
 obtain ⟨m0,m1,mf0,mf1,mq⟩:=res2 hz1
 have MQ:Hid (_∧_):=mq (.int .i64 (((vNum (n:Int)).m:Nat):Int)) (.int .i64 (vNum (n:Int)).r)
 have B1:Hid (Below w.heap.size w w1):=HB.out.trans (b1.mono HB.out.size)
 clear mq b1 hz1
 go_wp2_with fail
 refine bodyPost_ret (v:=.tuple #[.agg #[.int .i64 (((vNum (n:Int)).m:Nat):Int),.int .i64 (vNum (n:Int)).r],.bool true]) (by simp [results,Tryz.results193,go_sem,MQ.out.1,MQ.out.2]) rfl ?_
 have B2:=(B1.out.setCell (p:=⟨w.heap.size + 1 + 1,0,none⟩) (by show w.heap.size≤w.heap.size + 1 + 1; omega) (.int .i64 (((vNum (n:Int)).m:Nat):Int))).setCell (p:=⟨w.heap.size + 1 + 1,1,none⟩) (by show w.heap.size≤w.heap.size + 1 + 1; omega) (.int .i64 (vNum (n:Int)).r)
 exact ⟨rfl,by rw [told_nil]; exact HA.out.call B2,AKeep.of_below B2 HA.out.le⟩
theorem stC_get (e:Fin 8→Sp.Cg) (k:Fin 8):(stC (some e))[1 + k.val * 2]?=some (.int .i64 (((e k).m:Nat):Int))∧(stC (some e))[1 + k.val * 2 + 1]?=some (.int .i64 (e k).r) :=
 stI_get (r:=true) (l:=List.ofFn e) (j:=k.val) (v:=e k) (by rw [List.getElem?_ofFn]; simp)
theorem name_an (k:Nat) (hk:k<8) (ct:Sp.Ct):SumAn (.iface 275 (.int .i64 k)) (.name k) ct:=by
 intro C π T F b w e h he hr
 have h1:=ta_name_num (.int .i64 k)
 have h2:=ta_name_name (.int .i64 k)
 have hg:Sp.getV (Dm π) e k=e ⟨k,hk⟩:=dif_pos hk
 show Calls _ _ _ w (SumPost C π T F b w [] (some (Sp.getV (Dm π) e k)))
 rw [hg]
 have hk':(k:Int)<8:=by omega
 obtain ⟨x0,x1⟩:=stC_get e ⟨k,hk⟩
 generalize e ⟨k,hk⟩=v at *
 generalize wk C b=wa at *
 generalize stC (some e)=xa at *
 obtain ⟨k0,k1,k2,kb⟩:=laid3b (w:=w) (o1:=.cells wa 200) (o2:=.cells xa 203) (o3:=.cells #[.int .i64 0,.int .i64 0] 126) (Below.refl _ _)
 have d0:=cell_of k1 _ x0
 have d1:=cell_of k1 _ x1
 obtain ⟨_,_,_,kb2⟩:=laid3b (w:=w) (o1:=.cells wa 200) (o2:=.cells xa 203) (o3:=.cells #[.int .i64 ((v.m:Nat):Int),.int .i64 v.r] 126) (Below.refl _ _)
 have HB:Hid (Below w.heap.size w _):=kb2
 have HA:Hid (AnAt C π T F w):=h
 clear h k0 k1 k2 kb kb2 hr hg he x0 x1
 simp only at d0 d1
 go_enter Tryz.func193,Tryz.ntmps193
 go_wp2_with fail
 refine bodyPost_ret (v:=.tuple #[.agg #[.int .i64 ((v.m:Nat):Int),.int .i64 v.r],.bool true]) (by simp [results,Tryz.results193,go_sem]) rfl ?_
 exact ⟨rfl,by rw [told_nil]; exact HA.out.call HB.out,AKeep.of_below HB.out HA.out.le⟩
end WC
end Go.Proofs.YtiopfihjmkfdmaaGreatDoor
