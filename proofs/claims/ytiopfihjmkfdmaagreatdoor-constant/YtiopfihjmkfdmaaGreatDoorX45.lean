import Derived.Test.YtiopfihjmkfdmaaGreatDoorX43
import Derived.Test.YtiopfihjmkfdmaaGreatDoorX44
namespace Go.Proofs.YtiopfihjmkfdmaaGreatDoor
namespace WC
open Go.RowKit
set_option maxRecDepth 100000
set_option maxHeartbeats 8000000
theorem infoS3:(Tryz.prog.info? 203).map (fun i=>(i.zero,i.size))=some (some (.agg (stC none)),17)∧((Tryz.prog.info? 203).map (fun i=>decide (i.bytes≤1000)))=some true:=by constructor <;> kernel_rfl
theorem make_states (n:Nat) (hn:n≤1000000) (w:World):(Instr.makeSlice 196 (.int .i64 (n:Nat)) (.int .i64 (n:Nat))).run Tryz.prog w=.ok (.slice (some ⟨w.heap.size,0,none⟩) n n) (w.alloc (.cells (factCells (List.replicate n none)).toArray 203)):=by
 obtain ⟨i,hi,hz⟩:=Option.map_eq_some_iff.1 infoS3.1
 have h3:=infoS3.2
 rw [hi] at h3
 simp only [Option.map_some,Option.some.injEq,decide_eq_true_eq] at h3
 simp only [Prod.mk.injEq] at hz
 obtain ⟨h1,h2⟩:=hz
 have hb:(i.bytes:Int) * (n:Int)≤281474976710656:=by
  have h4:i.bytes * n≤1000 * 1000000:=Nat.mul_le_mul h3 hn
  have h5:((i.bytes * n:Nat):Int)≤1000000000:=by omega
  rw [Int.natCast_mul] at h5
  omega
 have:=run_make (P:=Tryz.prog) w 196 203 i _ Tryz.underlying196 hi h1 .i64 .i64 n n (by omega) (Int.le_refl _) hb (by omega)
 rw [this,h2]
 simp only [Int.toNat_natCast]
 congr 4
 exact made_chunk (f:=fun s=>(stC s).toList) (a:=none) (z:=stC none) rfl stC_len (by omega)
theorem infoI3:(Tryz.prog.info? 3).map (fun i=>(i.zero,i.size,i.bytes))=some (some (.int .i64 0),1,8):=by kernel_rfl
theorem make_sites (n:Nat) (hn:n≤1000000) (w:World):(Instr.makeSlice 35 (.int .i64 (n:Nat)) (.int .i64 (n:Nat))).run Tryz.prog w=.ok (.slice (some ⟨w.heap.size,0,none⟩) n n) (w.alloc (.cells (siteCells (List.replicate n 0)).toArray 3)):=by
 obtain ⟨i,hi,hz⟩:=Option.map_eq_some_iff.1 infoI3
 simp only [Prod.mk.injEq] at hz
 obtain ⟨h1,h2,h3⟩:=hz
 have:=run_make (P:=Tryz.prog) w 35 3 i _ Tryz.underlying35 hi h1 .i64 .i64 n n (by omega) (Int.le_refl _) (by rw [h3]; omega) (by omega)
 rw [this,h2]
 simp only [Int.toNat_natCast]
 congr 4
 have:=made_chunk (f:=fun k:Nat=>[Value.int .i64 ((k:Nat):Int)]) (k:=1) (n:=n) (a:=0) (z:=#[.int .i64 0]) rfl (fun _=>rfl) (by omega)
 rw [show (Value.int .i64 0).cells=#[.int .i64 0] from rfl,this]
 unfold siteCells
 rw [List.map_eq_flatMap]
theorem build_fd (a b:Value) (ha:∃ x n c,a=.slice x n c) (hb:∃ x n c,b=.slice x n c) (w:World):(Instr.build 198 #[(0,a),(1,b)]).run Tryz.prog w=.ok (.agg #[a,b]) w:=by
 obtain ⟨x,n,c,rfl⟩:=ha
 obtain ⟨x',n',c',rfl⟩:=hb
 kernel_rfl
theorem build_rp (a b:Value) (ha:∃ x n c,a=.slice x n c) (hb:∃ x n c,b=.slice x n c) (w:World):(Instr.build 64 #[(0,a),(1,b)]).run Tryz.prog w=.ok (.agg #[a,b]) w:=by
 obtain ⟨x,n,c,rfl⟩:=ha
 obtain ⟨x',n',c',rfl⟩:=hb
 kernel_rfl
theorem build_wk (dv:Value) (dom:Int) (delay narrow unroll:Int) (th:Bool) (m:Nat) (f:Option Addr) (w:World):(Instr.build 200 #[(0,.iface 128 dv),(1,.agg #[.int .i64 dom,.int .i64 delay,.int .i64 narrow,.int .i64 unroll,.bool th]),(2,.map (some m)),(3,.pointer f)]).run Tryz.prog w=.ok (.agg (wkA dv dom delay narrow unroll th m f)) w:=by
 kernel_rfl
theorem wkA_one (dv:Value) (dom delay narrow unroll:Int) (th:Bool) (m:Nat) (f:Option Addr):(wkA dv dom delay narrow unroll th m f).all (·.oneCell')=true:=by unfold wkA; simp [Value.oneCell']
structure RpS (w:World) (pa ca:Array Value) (W:World):Prop where
 p:W.heap[w.heap.size]?=some (.cells pa 86)
 c:W.heap[w.heap.size + 1]?=some (.cells ca 58)
 z:W.heap[w.heap.size + 1 + 1]?=some (.cells #[.slice none 0 0,.slice none 0 0] 64)
 b:Below w.heap.size w W
theorem RpS.call {w:World} {pa ca:Array Value} {W W':World} (h:RpS w pa ca W) (k:Below W.heap.size W W'):RpS w pa ca W' :=
 ⟨(k.block _ (heap_lt h.p)).trans h.p,(k.block _ (heap_lt h.c)).trans h.c,(k.block _ (heap_lt h.z)).trans h.z,h.b.trans (k.mono h.b.size)⟩
theorem RpS.alloc {w:World} {pa ca:Array Value} {W:World} (h:RpS w pa ca W) {o:Obj}:RpS w pa ca (W.alloc o):=h.call (below_alloc1 W o)
theorem RpS.lt {w:World} {pa ca:Array Value} {W:World} (h:RpS w pa ca W):w.heap.size + 1 + 1<W.heap.size:=heap_lt h.z
theorem RpS.put {w:World} {pa ca:Array Value} {W:World} (h:RpS w pa ca W) {k:Nat} (hk:w.heap.size + 1 + 1<k) (l:List Value):RpS w pa ca (W.setCells k 0 l) :=
 ⟨(setCells_other _ _ _ _ (by omega)).trans h.p,(setCells_other _ _ _ _ (by omega)).trans h.c,(setCells_other _ _ _ _ (by omega)).trans h.z,setCells_below (by omega) _ _ _ _ h.b⟩
theorem RpS.keep {C:Cx} {w:World} {pa ca:Array Value} {W W':World} (hC:C.base=w.heap.size) (h1:w.heap.size + 1 + 1<C.gf) (h2:w.heap.size + 1 + 1<C.gs) (h3:w.heap.size + 1 + 1<C.m) (h:RpS w pa ca W) (k:AKeep C W W'):RpS w pa ca W' :=
 ⟨(k.others _ (heap_lt h.p) (by omega) (by omega) (by omega)).trans h.p,(k.others _ (heap_lt h.c) (by omega) (by omega) (by omega)).trans h.c,(k.others _ (heap_lt h.z) (by omega) (by omega) (by omega)).trans h.z,h.b.trans (hC ▸ k.below)⟩
abbrev fdO (n q gf gs:Nat):Obj:=.cells #[.slice (some ⟨gf,0,none⟩) n n,.slice (some ⟨gs,0,none⟩) q q] 198
theorem bFd (n q gf gs:Nat) (w:World):(Instr.build 198 #[(0,.slice (some ⟨gf,0,none⟩) n n),(1,.slice (some ⟨gs,0,none⟩) q q)]).run Tryz.prog w=.ok (.agg #[.slice (some ⟨gf,0,none⟩) n n,.slice (some ⟨gs,0,none⟩) q q]) w:=build_fd _ _ ⟨_,_,_,rfl⟩ ⟨_,_,_,rfl⟩ w
theorem bWk (dv:Value) (dom:Int) (delay narrow unroll:Nat) (th:Bool) (m fb:Nat) (w:World):(Instr.build 200 #[(0,.iface 128 dv),(1,.agg #[.int .i64 dom,.int .i64 (delay:Nat),.int .i64 (narrow:Nat),.int .i64 (unroll:Nat),.bool th]),(2,.map (some m)),(3,.pointer (some ⟨fb,0,none⟩))]).run Tryz.prog w=.ok (.agg (wkA dv dom delay narrow unroll th m (some ⟨fb,0,none⟩))) w:=build_wk _ _ _ _ _ _ _ _ w
structure RpO (w:World) (pa ca fc sc:Array Value) (n q:Nat) (m gf gs fb kw:Option Nat) (W:World):Prop where
 s:RpS w pa ca W
 xm:∀ a,m=some a→w.heap.size + 1 + 1<a∧W.heap[a]?=some (.map #[] 0)
 xf:∀ a,gf=some a→w.heap.size + 1 + 1<a∧W.heap[a]?=some (.cells fc 203)
 xg:∀ a,gs=some a→w.heap.size + 1 + 1<a∧W.heap[a]?=some (.cells sc 3)
 xb:∀ a f g,fb=some a→gf=some f→gs=some g→w.heap.size + 1 + 1<a∧W.heap[a]?=some (fdO n q f g)
 xk:∀ a,kw=some a→w.heap.size + 1 + 1<a∧W.heap[a]?=some (.cells zeroWk 200)
section
variable {w : World} {pa ca fc sc : Array Value} {n q : Nat} {m gf gs fb kw : Option Nat} {W : World}
theorem RpO.old (J:RpO w pa ca fc sc n q m gf gs fb kw W) (o:Obj):RpO w pa ca fc sc n q m gf gs fb kw (W.alloc o) :=
 ⟨J.s.alloc,fun a h=>⟨(J.xm a h).1,heap_alloc_old (J.xm a h).2⟩,fun a h=>⟨(J.xf a h).1,heap_alloc_old (J.xf a h).2⟩,fun a h=>⟨(J.xg a h).1,heap_alloc_old (J.xg a h).2⟩,fun a f g h h1 h2=>⟨(J.xb a f g h h1 h2).1,heap_alloc_old (J.xb a f g h h1 h2).2⟩,fun a h=>⟨(J.xk a h).1,heap_alloc_old (J.xk a h).2⟩⟩
theorem RpO.am (J:RpO w pa ca fc sc n q none gf gs fb kw W):RpO w pa ca fc sc n q (some W.heap.size) gf gs fb kw (W.alloc (.map #[] 0)) :=
 { J.old _ with xm:=fun a h=>by injection h with h; subst h; exact ⟨J.s.lt,heap_alloc_new _ _⟩ }
theorem RpO.af (J:RpO w pa ca fc sc n q m none gs none kw W):RpO w pa ca fc sc n q m (some W.heap.size) gs none kw (W.alloc (.cells fc 203)) :=
 { J.old _ with xf:=fun a h=>by injection h with h; subst h; exact ⟨J.s.lt,heap_alloc_new _ _⟩,xb:=fun _ _ _ h=>by cases h }
theorem RpO.ag (J:RpO w pa ca fc sc n q m gf none none kw W):RpO w pa ca fc sc n q m gf (some W.heap.size) none kw (W.alloc (.cells sc 3)) :=
 { J.old _ with xg:=fun a h=>by injection h with h; subst h; exact ⟨J.s.lt,heap_alloc_new _ _⟩,xb:=fun _ _ _ h=>by cases h }
theorem RpO.ab {f g:Nat} (J:RpO w pa ca fc sc n q m (some f) (some g) none kw W):RpO w pa ca fc sc n q m (some f) (some g) (some W.heap.size) kw (W.alloc (fdO n q f g)) :=
 { J.old _ with xb:=fun a f' g' h h1 h2=>by injection h with h; injection h1 with h1; injection h2 with h2; subst h h1 h2; exact ⟨J.s.lt,heap_alloc_new _ _⟩ }
theorem RpO.ak (J:RpO w pa ca fc sc n q m gf gs fb none W):RpO w pa ca fc sc n q m gf gs fb (some W.heap.size) (W.alloc (.cells zeroWk 200)) :=
 { J.old _ with xk:=fun a h=>by injection h with h; subst h; exact ⟨J.s.lt,heap_alloc_new _ _⟩ }
end
abbrev rpC (w:World) (dv:Value) (dom:Int) (delay narrow unroll:Nat) (th:Bool) (n q m fb gf gs:Nat):Cx:=⟨w.heap.size,dv,dom,delay,narrow,unroll,th,m,fb,gf,gs,n,q⟩
structure RpN (π:Par) (dv:Value) (w:World):Prop where
 d:Does w.heap.size π dv w
 t:Turns w
 g:11≤w.heap.size
def RpAt (w:World) (π:Par) (T:Tab) (dv:Value) (dom:Int) (delay narrow unroll:Nat) (th:Bool) (n q kw m fb gf gs:Nat) (F:Fd) (W:World):Prop :=
 (w.heap.size + 1 + 1<kw∧w.heap.size + 1 + 1<gf∧w.heap.size + 1 + 1<gs∧w.heap.size + 1 + 1<m)∧W.heap[kw]?=some (.cells (wkA dv dom delay narrow unroll th m (some ⟨fb,0,none⟩)) 200)∧AnAt (rpC w dv dom delay narrow unroll th n q m fb gf gs) π T F W
theorem RpAt.fin {w:World} {π:Par} {T:Tab} {dv:Value} {dom:Int} {delay narrow unroll:Nat} {th:Bool} {n q kw m fb gf gs:Nat} {pa ca:Array Value} {W:World} (hN:RpN π dv w) (l:w.heap.size + 1 + 1<kw∧w.heap.size + 1 + 1<gf∧w.heap.size + 1 + 1<gs∧w.heap.size + 1 + 1<m∧w.heap.size + 1 + 1<fb)
  (hm:W.heap[m]?=some (.map #[] 0)) (hgf:W.heap[gf]?=some (.cells (factCells (List.replicate n none)).toArray 203)) (hgs:W.heap[gs]?=some (.cells (siteCells (List.replicate q 0)).toArray 3))
  (hfb:W.heap[fb]?=some (.cells #[.slice (some ⟨gf,0,none⟩) n n,.slice (some ⟨gs,0,none⟩) q q] 198)) (hkw:W.heap[kw]?=some (.cells zeroWk 200)) (hS:RpS w pa ca W) :
  RpAt w π T dv dom delay narrow unroll th n q kw m fb gf gs (List.replicate n none,List.replicate q 0) (W.setCells kw 0 (wkA dv dom delay narrow unroll th m (some ⟨fb,0,none⟩)).toList)∧RpS w pa ca (W.setCells kw 0 (wkA dv dom delay narrow unroll th m (some ⟨fb,0,none⟩)).toList):=by
 have n1:m ≠ kw:=fun e=>by rw [e,hkw] at hm; cases hm
 have n2:gf ≠ kw:=fun e=>by rw [e,hkw] at hgf; injection hgf with h; injection h with _ h _; exact absurd h (by decide)
 have n3:gs ≠ kw:=fun e=>by rw [e,hkw] at hgs; injection hgs with h; injection h with _ h _; exact absurd h (by decide)
 have n4:fb ≠ kw:=fun e=>by rw [e,hkw] at hfb; injection hfb with h; injection h with _ h _; exact absurd h (by decide)
 have hS':=hS.put l.1 (wkA dv dom delay narrow unroll th m (some ⟨fb,0,none⟩)).toList
 refine ⟨⟨⟨l.1,l.2.1,l.2.2.1,l.2.2.2.1⟩,setCells_whole hkw rfl,?_⟩,hS'⟩
 refine ⟨?_,(setCells_other _ _ _ _ n2).trans hgf,(setCells_other _ _ _ _ n3).trans hgs,⟨#[],0,(setCells_other _ _ _ _ n1).trans hm,fun x hx=>by simp at hx⟩,hN.d.below hS'.b,hN.t.below hS'.b hN.g,hN.g,?_,?_,?_,?_,?_⟩
 ·rw [setCells_other _ _ _ _ n4]
  simp only [List.length_replicate]
  exact hfb
 ·show w.heap.size≤fb; omega
 ·show w.heap.size≤gf; omega
 ·show w.heap.size≤gs; omega
 ·show w.heap.size≤m; omega
 ·intro s hs
  obtain rfl:=List.eq_of_mem_replicate hs
  exact Sp.wf_none
theorem infoRp:(Tryz.prog.info? 64).map (·.size)=some 2:=by kernel_rfl
theorem results_rp {fn:Func} {a:Tmp} (hres:fn.results=#[.cell a 64]) (tmps:Array Value) (w:World) {b:Nat} {c:Array Value} (ht:tmps.getD a undef=.pointer (some ⟨b,0,none⟩)) (h:w.heap[b]?=some (.cells c 64)) (hc:c.size=2) :
  (results fn tmps).run Tryz.prog w=.ok (.agg c) w:=by
 have hl:(loadVar 64 ⟨b,0,none⟩).run Tryz.prog w=.ok (.agg c) w:=by
  have:=run_loadVar_mid (P:=Tryz.prog) w b 0 64 c.toList _ (range_of h) Tryz.underlying64 rfl (by rw [infoRp]; simp [hc])
  simpa using this
 have ht':tmps[a]?.getD undef=.pointer (some ⟨b,0,none⟩):=by rw [← ht]; simp
 unfold results
 rw [hres]
 simp [asAddr,ht',hl]
structure RpM (w:World) (pa ca:Array Value) (C:Cx) (π:Par) (T:Tab) (kw:Nat) (F:Fd) (W:World):Prop where
 a:AnAt C π T F W
 o:W.heap[kw]?=some (.cells (wk C true) 200)
 s:RpS w pa ca W
theorem RpM.call {w:World} {pa ca:Array Value} {C:Cx} {π:Par} {T:Tab} {kw:Nat} {F:Fd} {W W':World} (h:RpM w pa ca C π T kw F W) (k:Below W.heap.size W W'):RpM w pa ca C π T kw F W' :=
 ⟨h.a.call k,(k.block _ (heap_lt h.o)).trans h.o,h.s.call k⟩
theorem RpM.keep {w:World} {pa ca:Array Value} {C:Cx} {π:Par} {T:Tab} {kw:Nat} {F F':Fd} {W W':World} (h:RpM w pa ca C π T kw F W) (hC:C.base=w.heap.size) (hl:w.heap.size + 1 + 1<C.gf∧w.heap.size + 1 + 1<C.gs∧w.heap.size + 1 + 1<C.m) (ha:AnAt C π T F' W') (k:AKeep C W W'):RpM w pa ca C π T kw F' W':=by
 have n2:kw ≠ C.gf:=fun e=>by have h1:=h.o; rw [e,h.a.hgf] at h1; injection h1 with h1; injection h1 with _ h1 _; exact absurd h1 (by decide)
 have n3:kw ≠ C.gs:=fun e=>by have h1:=h.o; rw [e,h.a.hgs] at h1; injection h1 with h1; injection h1 with _ h1 _; exact absurd h1 (by decide)
 exact ⟨ha,k.cell h.a h.o n2 n3,h.s.keep hC hl.1 hl.2.1 hl.2.2 k⟩
theorem RpM.put {w:World} {pa ca:Array Value} {C:Cx} {π:Par} {T:Tab} {kw:Nat} {F F0:Fd} {W0 W:World} (h:RpM w pa ca C π T kw F W) (h0:RpM w pa ca C π T kw F0 W0) {k:Nat} (hk:W0.heap.size≤k) (l:List Value):RpM w pa ca C π T kw F (W.setCells k 0 l):=by
 have hb:Below W0.heap.size W (W.setCells k 0 l):=setCells_below (b:=k) hk l 0 W _ (Below.refl _ _)
 exact ⟨h0.a.upon h.a hb,(hb.block _ (heap_lt h0.o)).trans h.o,h.s.put (Nat.lt_of_lt_of_le h0.s.lt hk) l⟩
theorem Report_calls (w:World) (π:Par) (dv:Value) (dom:Int) (delay narrow unroll:Nat) (th:Bool) (p q:Nat) (hp:p≤1000) (hq:q≤1000) (hna:narrow≤1000) (hun:unroll≤1000) (v nv:Value) (hv:∃ a n c,v=.slice a n c) (hnv:∃ a n c,nv=.slice a n c) (t:Sp.Bl) (hN:RpN π dv w) (hsm:Sp.Small (0,0) (Sp.pB t) (Sp.qB t)) (lo hi:Nat) (w0:World) (hso:SameOn lo hi w0 w) (hhi:hi≤w.heap.size) (hB:BlA (0,0) lo hi w0 v t ((p:Int),(q:Int))) :
  Calls Tryz.prog 50 #[.agg #[v,.int .i64 (p:Nat),.int .i64 (q:Nat),nv],.agg #[.int .i64 dom,.int .i64 (delay:Nat),.int .i64 (narrow:Nat),.int .i64 (unroll:Nat),.bool th],.iface 128 dv] w fun r w'=>∃ g h,r=.returned (.agg #[.slice (some ⟨g,0,none⟩) (p + 1) (p + 1),.slice (some ⟨h,0,none⟩) q q])∧w'.heap[g]?=some (.cells (fcCells (Sp.reportOf (Dm π) ⟨delay,narrow,unroll⟩ t).1).toArray 76)∧w'.heap[h]?=some (.cells (siteCells (Sp.reportOf (Dm π) ⟨delay,narrow,unroll⟩ t).2).toArray 3)∧w.heap.size≤g∧w.heap.size≤h∧Below w.heap.size w w':=by
 obtain ⟨T,hT⟩:∃ T:Tab,T=Sp.tabB (Dm π) ⟨delay,narrow,unroll⟩ t (0,0):=⟨_,rfl⟩
 have HLP:Hid (Sp.LoopsB (Dm π) ⟨delay,narrow,unroll⟩ T t (0,0)):=by
  rw [hT]
  exact Sp.tab_loops (Dm π) ⟨delay,narrow,unroll⟩ _ t (0,0) hsm (fun p s _ _=>rfl)
 obtain ⟨n,hn⟩:∃ n,n=p + 1:=⟨_,rfl⟩
 have hmS:=make_states n (by omega)
 have hmI:=make_sites q (by omega)
 obtain ⟨fc0,hfc0⟩:∃ x,x=(factCells (List.replicate n none)).toArray:=⟨_,rfl⟩
 obtain ⟨sc0,hsc0⟩:∃ x,x=(siteCells (List.replicate q 0)).toArray:=⟨_,rfl⟩
 rw [← hfc0] at hmS
 rw [← hsc0] at hmI
 have hwrap:IntKind.i64.wrap ((p:Nat) + 1:Int)=((n:Nat):Int):=by rw [IntKind.wrap_i64]; omega
 have HNP:Hid (n=p + 1):=hn
 obtain ⟨va,vn,vc,rfl⟩:=hv
 obtain ⟨na,nn,nc,rfl⟩:=hnv
 obtain ⟨pa,hpa⟩:∃ pa,pa=#[Value.slice va vn vc,.int .i64 (p:Nat),.int .i64 (q:Nat),.slice na nn nc]:=⟨_,rfl⟩
 obtain ⟨ca,hca⟩:∃ ca,ca=#[Value.int .i64 dom,.int .i64 (delay:Nat),.int .i64 (narrow:Nat),.int .i64 (unroll:Nat),.bool th]:=⟨_,rfl⟩
 have H0:Hid (RpS w pa ca (((w.alloc (.cells #[.slice va vn vc,.int .i64 (p:Nat),.int .i64 (q:Nat),.slice na nn nc] 86)).alloc (.cells #[.int .i64 dom,.int .i64 (delay:Nat),.int .i64 (narrow:Nat),.int .i64 (unroll:Nat),.bool th] 58)).alloc (.cells #[.slice none 0 0,.slice none 0 0] 64))):=by
  obtain ⟨k0,k1,k2,kb⟩:=laid3b (w:=w) (o1:=.cells #[.slice va vn vc,.int .i64 (p:Nat),.int .i64 (q:Nat),.slice na nn nc] 86) (o2:=.cells #[.int .i64 dom,.int .i64 (delay:Nat),.int .i64 (narrow:Nat),.int .i64 (unroll:Nat),.bool th] 58) (o3:=.cells #[.slice none 0 0,.slice none 0 0] 64) (Below.refl _ _)
  rw [hpa,hca]
  exact ⟨k0,k1,k2,kb⟩
 have hp0:pa[0]?=some (.slice va vn vc):=by rw [hpa]; rfl
 have hp1:pa[1]?=some (.int .i64 (p:Nat)):=by rw [hpa]; rfl
 have hp2:pa[2]?=some (.int .i64 (q:Nat)):=by rw [hpa]; rfl
 have hc0:ca[0]?=some (.int .i64 dom):=by rw [hca]; rfl
 have hc1:ca[1]?=some (.int .i64 (delay:Nat)):=by rw [hca]; rfl
 have hc2:ca[2]?=some (.int .i64 (narrow:Nat)):=by rw [hca]; rfl
 have hc3:ca[3]?=some (.int .i64 (unroll:Nat)):=by rw [hca]; rfl
 have hc4:ca[4]?=some (.bool th):=by rw [hca]; rfl
 have HFC:Hid (fc0=_):=hfc0
 have HSC:Hid (sc0=_):=hsc0
 have HN:Hid (RpN π dv w):=hN
 have HBL:Hid (BlA (0,0) lo hi w0 (.slice va vn vc) t ((p:Int),(q:Int))):=hB
 have HSO:Hid (SameOn lo hi w0 w):=hso
 clear hT hfc0 hsc0 hpa hca hN hB hso hn
 go_enter Tryz.func50,Tryz.ntmps50
 go_wp2_with fail
 generalize ((w.alloc (.cells #[.slice va vn vc,.int .i64 (p:Nat),.int .i64 (q:Nat),.slice na nn nc] 86)).alloc (.cells #[.int .i64 dom,.int .i64 (delay:Nat),.int .i64 (narrow:Nat),.int .i64 (unroll:Nat),.bool th] 58)).alloc (.cells #[.slice none 0 0,.slice none 0 0] 64)=W0 at *
 go_cut [7] from 9 to 21 (fun v7 wc=>∃ kw m fb gf gs:Nat,v7=.pointer (some ⟨kw,0,none⟩)∧RpAt w π T dv dom delay narrow unroll th n q kw m fb gf gs (List.replicate n none,List.replicate q 0) wc∧RpS w pa ca wc)
 case first =>
  have H1:RpS w pa ca W0.drew:=H0.out.call (Below.refl _ _).drew
  refine wp_region_held_drew (S:=fun w':World=>RpS w pa ca w') (by kernel_rfl) H1 (fun hHeld=>?_)
  clear H0 H1
  generalize W0.drew=Wd at *
  refine tk 0 (.iface 128 dv) rfl (fun w' h=>by go_simp) hHeld ?_
  simp only [Act.put]
  refine tk 1 (.agg #[.int .i64 dom,.int .i64 (delay:Nat),.int .i64 (narrow:Nat),.int .i64 (unroll:Nat),.bool th]) rfl (fun w' h=>by (have d0:=cell_of h.c 0 hc0); (have d1:=cell_of h.c 1 hc1); (have d2:=cell_of h.c 2 hc2); (have d3:=cell_of h.c 3 hc3); have d4:=cell_of h.c 4 hc4; go_simp) hHeld ?_
  simp only [Act.put]
  refine tk 3 (.pointer (some ⟨w.heap.size,1,none⟩)) rfl (fun w' h=>by go_simp) hHeld ?_
  simp only [Act.put]
  refine tk 4 (.int .i64 (p:Nat)) rfl (fun w' h=>by have d:=cell_of h.p 1 hp1; go_simp) hHeld ?_
  simp only [Act.put]
  refine tk 5 (.int .i64 (n:Nat)) rfl (fun w' h=>by go_simp) hHeld ?_
  simp only [Act.put]
  refine tk 7 (.pointer (some ⟨w.heap.size,2,none⟩)) rfl (fun w' h=>by go_simp) hHeld ?_
  simp only [Act.put]
  refine tk 8 (.int .i64 (q:Nat)) rfl (fun w' h=>by have d:=cell_of h.p 2 hp2; go_simp) hHeld ?_
  simp only [Act.put]
  have J:RpO w pa ca fc0 sc0 n q none none none none none Wd:=⟨hHeld,fun _ h=>(by cases h),fun _ h=>(by cases h),fun _ h=>(by cases h),fun _ _ _ h=>(by cases h),fun _ h=>(by cases h)⟩
  generalize Wd=W at *
  refine rd4 2 6 9 13 (fun K hK=>?g1) (fun K hK=>?g2) (fun K hK=>?g3) (fun K hK=>?g4)
  case' g1 =>
   simp only [gsb,gsa]; go_simp; change K _ (W.alloc (.map #[] 0)); replace J:=J.am; clear hHeld; refine hK.out _ _ J.s (fun hHeld=>?_); clear hK K; generalize W.heap.size=m at *; generalize W.alloc (.map #[] 0)=W at *; refine rd3 6 9 13 (fun K hK=>?g5) (fun K hK=>?g6) (fun K hK=>?g7)
   case' g5 =>
    simp only [gsb]; go_simp; replace J:=J.af; clear hHeld; refine hK.out _ _ J.s (fun hHeld=>?_); clear hK K; generalize W.heap.size=gf at *; generalize W.alloc (.cells fc0 203)=W at *; refine rd2 9 13 (fun K hK=>?g8) (fun K hK=>?g9)
    case' g8 =>
     simp only [gsb]; go_simp; replace J:=J.ag; clear hHeld; refine hK.out _ _ J.s (fun hHeld=>?_); clear hK K; generalize W.heap.size=gs at *; generalize W.alloc (.cells sc0 3)=W at *; refine tky 10 rfl (yields_bld (by rfl) rfl (by kernel_rfl) (bFd n q gf gs)) hHeld ?_; simp only [Act.put]; refine rd2 11 13 (fun K hK=>?g10) (fun K hK=>?g11)
     case' g10 =>
      simp only [gsb,gsa]; go_simp; replace J:=J.ab; clear hHeld; refine hK.out _ _ J.s (fun hHeld=>?_); clear hK K; generalize W.heap.size=fb at *; generalize W.alloc (fdO n q gf gs)=W at *; refine tky 12 rfl (yields_bld (by rfl) rfl (by kernel_rfl) (bWk dv dom delay narrow unroll th m fb)) hHeld ?_; simp only [Act.put]; refine rd1 13 (fun K hK=>?g12)
      case' g12 =>
       simp only [gsb,gsa]; go_simp; replace J:=J.ak; clear hHeld; refine hK.out _ _ J.s (fun hHeld=>?_); clear hK K; generalize W.heap.size=kw at *; generalize W.alloc (.cells zeroWk 200)=W at *; refine Shut.out ?l13
     case' g11 =>
      simp only [gsb,gsa]; go_simp; replace J:=J.ak; clear hHeld; refine hK.out _ _ J.s (fun hHeld=>?_); clear hK K; generalize W.heap.size=kw at *; generalize W.alloc (.cells zeroWk 200)=W at *; refine rd1 11 (fun K hK=>?g14)
      case' g14 =>
       simp only [gsb]; go_simp; replace J:=J.ab; clear hHeld; refine hK.out _ _ J.s (fun hHeld=>?_); clear hK K; generalize W.heap.size=fb at *; generalize W.alloc (fdO n q gf gs)=W at *; refine tky 12 rfl (yields_bld (by rfl) rfl (by kernel_rfl) (bWk dv dom delay narrow unroll th m fb)) hHeld ?_; simp only [Act.put]; refine Shut.out ?l15
    case' g9 =>
     simp only [gsb]; go_simp; replace J:=J.ak; clear hHeld; refine hK.out _ _ J.s (fun hHeld=>?_); clear hK K; generalize W.heap.size=kw at *; generalize W.alloc (.cells zeroWk 200)=W at *; refine rd1 9 (fun K hK=>?g16)
     case' g16 =>
      simp only [gsb]; go_simp; replace J:=J.ag; clear hHeld; refine hK.out _ _ J.s (fun hHeld=>?_); clear hK K; generalize W.heap.size=gs at *; generalize W.alloc (.cells sc0 3)=W at *; refine tky 10 rfl (yields_bld (by rfl) rfl (by kernel_rfl) (bFd n q gf gs)) hHeld ?_; simp only [Act.put]; refine rd1 11 (fun K hK=>?g17)
      case' g17 =>
       simp only [gsb,gsa]; go_simp; replace J:=J.ab; clear hHeld; refine hK.out _ _ J.s (fun hHeld=>?_); clear hK K; generalize W.heap.size=fb at *; generalize W.alloc (fdO n q gf gs)=W at *; refine tky 12 rfl (yields_bld (by rfl) rfl (by kernel_rfl) (bWk dv dom delay narrow unroll th m fb)) hHeld ?_; simp only [Act.put]; refine Shut.out ?l18
   case' g6 =>
    simp only [gsb]; go_simp; replace J:=J.ag; clear hHeld; refine hK.out _ _ J.s (fun hHeld=>?_); clear hK K; generalize W.heap.size=gs at *; generalize W.alloc (.cells sc0 3)=W at *; refine rd2 6 13 (fun K hK=>?g19) (fun K hK=>?g20)
    case' g19 =>
     simp only [gsb]; go_simp; replace J:=J.af; clear hHeld; refine hK.out _ _ J.s (fun hHeld=>?_); clear hK K; generalize W.heap.size=gf at *; generalize W.alloc (.cells fc0 203)=W at *; refine tky 10 rfl (yields_bld (by rfl) rfl (by kernel_rfl) (bFd n q gf gs)) hHeld ?_; simp only [Act.put]; refine rd2 11 13 (fun K hK=>?g21) (fun K hK=>?g22)
     case' g21 =>
      simp only [gsb,gsa]; go_simp; replace J:=J.ab; clear hHeld; refine hK.out _ _ J.s (fun hHeld=>?_); clear hK K; generalize W.heap.size=fb at *; generalize W.alloc (fdO n q gf gs)=W at *; refine tky 12 rfl (yields_bld (by rfl) rfl (by kernel_rfl) (bWk dv dom delay narrow unroll th m fb)) hHeld ?_; simp only [Act.put]; refine rd1 13 (fun K hK=>?g23)
      case' g23 =>
       simp only [gsb,gsa]; go_simp; replace J:=J.ak; clear hHeld; refine hK.out _ _ J.s (fun hHeld=>?_); clear hK K; generalize W.heap.size=kw at *; generalize W.alloc (.cells zeroWk 200)=W at *; refine Shut.out ?l24
     case' g22 =>
      simp only [gsb,gsa]; go_simp; replace J:=J.ak; clear hHeld; refine hK.out _ _ J.s (fun hHeld=>?_); clear hK K; generalize W.heap.size=kw at *; generalize W.alloc (.cells zeroWk 200)=W at *; refine rd1 11 (fun K hK=>?g25)
      case' g25 =>
       simp only [gsb]; go_simp; replace J:=J.ab; clear hHeld; refine hK.out _ _ J.s (fun hHeld=>?_); clear hK K; generalize W.heap.size=fb at *; generalize W.alloc (fdO n q gf gs)=W at *; refine tky 12 rfl (yields_bld (by rfl) rfl (by kernel_rfl) (bWk dv dom delay narrow unroll th m fb)) hHeld ?_; simp only [Act.put]; refine Shut.out ?l26
    case' g20 =>
     simp only [gsb]; go_simp; replace J:=J.ak; clear hHeld; refine hK.out _ _ J.s (fun hHeld=>?_); clear hK K; generalize W.heap.size=kw at *; generalize W.alloc (.cells zeroWk 200)=W at *; refine rd1 6 (fun K hK=>?g27)
     case' g27 =>
      simp only [gsb]; go_simp; replace J:=J.af; clear hHeld; refine hK.out _ _ J.s (fun hHeld=>?_); clear hK K; generalize W.heap.size=gf at *; generalize W.alloc (.cells fc0 203)=W at *; refine tky 10 rfl (yields_bld (by rfl) rfl (by kernel_rfl) (bFd n q gf gs)) hHeld ?_; simp only [Act.put]; refine rd1 11 (fun K hK=>?g28)
      case' g28 =>
       simp only [gsb,gsa]; go_simp; replace J:=J.ab; clear hHeld; refine hK.out _ _ J.s (fun hHeld=>?_); clear hK K; generalize W.heap.size=fb at *; generalize W.alloc (fdO n q gf gs)=W at *; refine tky 12 rfl (yields_bld (by rfl) rfl (by kernel_rfl) (bWk dv dom delay narrow unroll th m fb)) hHeld ?_; simp only [Act.put]; refine Shut.out ?l29
   case' g7 =>
    simp only [gsb]; go_simp; replace J:=J.ak; clear hHeld; refine hK.out _ _ J.s (fun hHeld=>?_); clear hK K; generalize W.heap.size=kw at *; generalize W.alloc (.cells zeroWk 200)=W at *; refine rd2 6 9 (fun K hK=>?g30) (fun K hK=>?g31)
    case' g30 =>
     simp only [gsb]; go_simp; replace J:=J.af; clear hHeld; refine hK.out _ _ J.s (fun hHeld=>?_); clear hK K; generalize W.heap.size=gf at *; generalize W.alloc (.cells fc0 203)=W at *; refine rd1 9 (fun K hK=>?g32)
     case' g32 =>
      simp only [gsb]; go_simp; replace J:=J.ag; clear hHeld; refine hK.out _ _ J.s (fun hHeld=>?_); clear hK K; generalize W.heap.size=gs at *; generalize W.alloc (.cells sc0 3)=W at *; refine tky 10 rfl (yields_bld (by rfl) rfl (by kernel_rfl) (bFd n q gf gs)) hHeld ?_; simp only [Act.put]; refine rd1 11 (fun K hK=>?g33)
      case' g33 =>
       simp only [gsb,gsa]; go_simp; replace J:=J.ab; clear hHeld; refine hK.out _ _ J.s (fun hHeld=>?_); clear hK K; generalize W.heap.size=fb at *; generalize W.alloc (fdO n q gf gs)=W at *; refine tky 12 rfl (yields_bld (by rfl) rfl (by kernel_rfl) (bWk dv dom delay narrow unroll th m fb)) hHeld ?_; simp only [Act.put]; refine Shut.out ?l34
    case' g31 =>
     simp only [gsb]; go_simp; replace J:=J.ag; clear hHeld; refine hK.out _ _ J.s (fun hHeld=>?_); clear hK K; generalize W.heap.size=gs at *; generalize W.alloc (.cells sc0 3)=W at *; refine rd1 6 (fun K hK=>?g35)
     case' g35 =>
      simp only [gsb]; go_simp; replace J:=J.af; clear hHeld; refine hK.out _ _ J.s (fun hHeld=>?_); clear hK K; generalize W.heap.size=gf at *; generalize W.alloc (.cells fc0 203)=W at *; refine tky 10 rfl (yields_bld (by rfl) rfl (by kernel_rfl) (bFd n q gf gs)) hHeld ?_; simp only [Act.put]; refine rd1 11 (fun K hK=>?g36)
      case' g36 =>
       simp only [gsb,gsa]; go_simp; replace J:=J.ab; clear hHeld; refine hK.out _ _ J.s (fun hHeld=>?_); clear hK K; generalize W.heap.size=fb at *; generalize W.alloc (fdO n q gf gs)=W at *; refine tky 12 rfl (yields_bld (by rfl) rfl (by kernel_rfl) (bWk dv dom delay narrow unroll th m fb)) hHeld ?_; simp only [Act.put]; refine Shut.out ?l37
  case' g2 =>
   simp only [gsb,gsa]; go_simp; replace J:=J.af; clear hHeld; refine hK.out _ _ J.s (fun hHeld=>?_); clear hK K; generalize W.heap.size=gf at *; generalize W.alloc (.cells fc0 203)=W at *; refine rd3 2 9 13 (fun K hK=>?g38) (fun K hK=>?g39) (fun K hK=>?g40)
   case' g38 =>
    simp only [gsb]; go_simp; change K _ (W.alloc (.map #[] 0)); replace J:=J.am; clear hHeld; refine hK.out _ _ J.s (fun hHeld=>?_); clear hK K; generalize W.heap.size=m at *; generalize W.alloc (.map #[] 0)=W at *; refine rd2 9 13 (fun K hK=>?g41) (fun K hK=>?g42)
    case' g41 =>
     simp only [gsb]; go_simp; replace J:=J.ag; clear hHeld; refine hK.out _ _ J.s (fun hHeld=>?_); clear hK K; generalize W.heap.size=gs at *; generalize W.alloc (.cells sc0 3)=W at *; refine tky 10 rfl (yields_bld (by rfl) rfl (by kernel_rfl) (bFd n q gf gs)) hHeld ?_; simp only [Act.put]; refine rd2 11 13 (fun K hK=>?g43) (fun K hK=>?g44)
     case' g43 =>
      simp only [gsb,gsa]; go_simp; replace J:=J.ab; clear hHeld; refine hK.out _ _ J.s (fun hHeld=>?_); clear hK K; generalize W.heap.size=fb at *; generalize W.alloc (fdO n q gf gs)=W at *; refine tky 12 rfl (yields_bld (by rfl) rfl (by kernel_rfl) (bWk dv dom delay narrow unroll th m fb)) hHeld ?_; simp only [Act.put]; refine rd1 13 (fun K hK=>?g45)
      case' g45 =>
       simp only [gsb,gsa]; go_simp; replace J:=J.ak; clear hHeld; refine hK.out _ _ J.s (fun hHeld=>?_); clear hK K; generalize W.heap.size=kw at *; generalize W.alloc (.cells zeroWk 200)=W at *; refine Shut.out ?l46
     case' g44 =>
      simp only [gsb,gsa]; go_simp; replace J:=J.ak; clear hHeld; refine hK.out _ _ J.s (fun hHeld=>?_); clear hK K; generalize W.heap.size=kw at *; generalize W.alloc (.cells zeroWk 200)=W at *; refine rd1 11 (fun K hK=>?g47)
      case' g47 =>
       simp only [gsb]; go_simp; replace J:=J.ab; clear hHeld; refine hK.out _ _ J.s (fun hHeld=>?_); clear hK K; generalize W.heap.size=fb at *; generalize W.alloc (fdO n q gf gs)=W at *; refine tky 12 rfl (yields_bld (by rfl) rfl (by kernel_rfl) (bWk dv dom delay narrow unroll th m fb)) hHeld ?_; simp only [Act.put]; refine Shut.out ?l48
    case' g42 =>
     simp only [gsb]; go_simp; replace J:=J.ak; clear hHeld; refine hK.out _ _ J.s (fun hHeld=>?_); clear hK K; generalize W.heap.size=kw at *; generalize W.alloc (.cells zeroWk 200)=W at *; refine rd1 9 (fun K hK=>?g49)
     case' g49 =>
      simp only [gsb]; go_simp; replace J:=J.ag; clear hHeld; refine hK.out _ _ J.s (fun hHeld=>?_); clear hK K; generalize W.heap.size=gs at *; generalize W.alloc (.cells sc0 3)=W at *; refine tky 10 rfl (yields_bld (by rfl) rfl (by kernel_rfl) (bFd n q gf gs)) hHeld ?_; simp only [Act.put]; refine rd1 11 (fun K hK=>?g50)
      case' g50 =>
       simp only [gsb,gsa]; go_simp; replace J:=J.ab; clear hHeld; refine hK.out _ _ J.s (fun hHeld=>?_); clear hK K; generalize W.heap.size=fb at *; generalize W.alloc (fdO n q gf gs)=W at *; refine tky 12 rfl (yields_bld (by rfl) rfl (by kernel_rfl) (bWk dv dom delay narrow unroll th m fb)) hHeld ?_; simp only [Act.put]; refine Shut.out ?l51
   case' g39 =>
    simp only [gsb]; go_simp; replace J:=J.ag; clear hHeld; refine hK.out _ _ J.s (fun hHeld=>?_); clear hK K; generalize W.heap.size=gs at *; generalize W.alloc (.cells sc0 3)=W at *; refine tky 10 rfl (yields_bld (by rfl) rfl (by kernel_rfl) (bFd n q gf gs)) hHeld ?_; simp only [Act.put]; refine rd3 2 11 13 (fun K hK=>?g52) (fun K hK=>?g53) (fun K hK=>?g54)
    case' g52 =>
     simp only [gsb,gsa]; go_simp; change K _ (W.alloc (.map #[] 0)); replace J:=J.am; clear hHeld; refine hK.out _ _ J.s (fun hHeld=>?_); clear hK K; generalize W.heap.size=m at *; generalize W.alloc (.map #[] 0)=W at *; refine rd2 11 13 (fun K hK=>?g55) (fun K hK=>?g56)
     case' g55 =>
      simp only [gsb]; go_simp; replace J:=J.ab; clear hHeld; refine hK.out _ _ J.s (fun hHeld=>?_); clear hK K; generalize W.heap.size=fb at *; generalize W.alloc (fdO n q gf gs)=W at *; refine tky 12 rfl (yields_bld (by rfl) rfl (by kernel_rfl) (bWk dv dom delay narrow unroll th m fb)) hHeld ?_; simp only [Act.put]; refine rd1 13 (fun K hK=>?g57)
      case' g57 =>
       simp only [gsb,gsa]; go_simp; replace J:=J.ak; clear hHeld; refine hK.out _ _ J.s (fun hHeld=>?_); clear hK K; generalize W.heap.size=kw at *; generalize W.alloc (.cells zeroWk 200)=W at *; refine Shut.out ?l58
     case' g56 =>
      simp only [gsb]; go_simp; replace J:=J.ak; clear hHeld; refine hK.out _ _ J.s (fun hHeld=>?_); clear hK K; generalize W.heap.size=kw at *; generalize W.alloc (.cells zeroWk 200)=W at *; refine rd1 11 (fun K hK=>?g59)
      case' g59 =>
       simp only [gsb]; go_simp; replace J:=J.ab; clear hHeld; refine hK.out _ _ J.s (fun hHeld=>?_); clear hK K; generalize W.heap.size=fb at *; generalize W.alloc (fdO n q gf gs)=W at *; refine tky 12 rfl (yields_bld (by rfl) rfl (by kernel_rfl) (bWk dv dom delay narrow unroll th m fb)) hHeld ?_; simp only [Act.put]; refine Shut.out ?l60
    case' g53 =>
     simp only [gsb,gsa]; go_simp; replace J:=J.ab; clear hHeld; refine hK.out _ _ J.s (fun hHeld=>?_); clear hK K; generalize W.heap.size=fb at *; generalize W.alloc (fdO n q gf gs)=W at *; refine rd2 2 13 (fun K hK=>?g61) (fun K hK=>?g62)
     case' g61 =>
      simp only [gsb]; go_simp; change K _ (W.alloc (.map #[] 0)); replace J:=J.am; clear hHeld; refine hK.out _ _ J.s (fun hHeld=>?_); clear hK K; generalize W.heap.size=m at *; generalize W.alloc (.map #[] 0)=W at *; refine tky 12 rfl (yields_bld (by rfl) rfl (by kernel_rfl) (bWk dv dom delay narrow unroll th m fb)) hHeld ?_; simp only [Act.put]; refine rd1 13 (fun K hK=>?g63)
      case' g63 =>
       simp only [gsb,gsa]; go_simp; replace J:=J.ak; clear hHeld; refine hK.out _ _ J.s (fun hHeld=>?_); clear hK K; generalize W.heap.size=kw at *; generalize W.alloc (.cells zeroWk 200)=W at *; refine Shut.out ?l64
     case' g62 =>
      simp only [gsb]; go_simp; replace J:=J.ak; clear hHeld; refine hK.out _ _ J.s (fun hHeld=>?_); clear hK K; generalize W.heap.size=kw at *; generalize W.alloc (.cells zeroWk 200)=W at *; refine rd1 2 (fun K hK=>?g65)
      case' g65 =>
       simp only [gsb]; go_simp; change K _ (W.alloc (.map #[] 0)); replace J:=J.am; clear hHeld; refine hK.out _ _ J.s (fun hHeld=>?_); clear hK K; generalize W.heap.size=m at *; generalize W.alloc (.map #[] 0)=W at *; refine tky 12 rfl (yields_bld (by rfl) rfl (by kernel_rfl) (bWk dv dom delay narrow unroll th m fb)) hHeld ?_; simp only [Act.put]; refine Shut.out ?l66
    case' g54 =>
     simp only [gsb,gsa]; go_simp; replace J:=J.ak; clear hHeld; refine hK.out _ _ J.s (fun hHeld=>?_); clear hK K; generalize W.heap.size=kw at *; generalize W.alloc (.cells zeroWk 200)=W at *; refine rd2 2 11 (fun K hK=>?g67) (fun K hK=>?g68)
     case' g67 =>
      simp only [gsb]; go_simp; change K _ (W.alloc (.map #[] 0)); replace J:=J.am; clear hHeld; refine hK.out _ _ J.s (fun hHeld=>?_); clear hK K; generalize W.heap.size=m at *; generalize W.alloc (.map #[] 0)=W at *; refine rd1 11 (fun K hK=>?g69)
      case' g69 =>
       simp only [gsb]; go_simp; replace J:=J.ab; clear hHeld; refine hK.out _ _ J.s (fun hHeld=>?_); clear hK K; generalize W.heap.size=fb at *; generalize W.alloc (fdO n q gf gs)=W at *; refine tky 12 rfl (yields_bld (by rfl) rfl (by kernel_rfl) (bWk dv dom delay narrow unroll th m fb)) hHeld ?_; simp only [Act.put]; refine Shut.out ?l70
     case' g68 =>
      simp only [gsb]; go_simp; replace J:=J.ab; clear hHeld; refine hK.out _ _ J.s (fun hHeld=>?_); clear hK K; generalize W.heap.size=fb at *; generalize W.alloc (fdO n q gf gs)=W at *; refine rd1 2 (fun K hK=>?g71)
      case' g71 =>
       simp only [gsb]; go_simp; change K _ (W.alloc (.map #[] 0)); replace J:=J.am; clear hHeld; refine hK.out _ _ J.s (fun hHeld=>?_); clear hK K; generalize W.heap.size=m at *; generalize W.alloc (.map #[] 0)=W at *; refine tky 12 rfl (yields_bld (by rfl) rfl (by kernel_rfl) (bWk dv dom delay narrow unroll th m fb)) hHeld ?_; simp only [Act.put]; refine Shut.out ?l72
   case' g40 =>
    simp only [gsb]; go_simp; replace J:=J.ak; clear hHeld; refine hK.out _ _ J.s (fun hHeld=>?_); clear hK K; generalize W.heap.size=kw at *; generalize W.alloc (.cells zeroWk 200)=W at *; refine rd2 2 9 (fun K hK=>?g73) (fun K hK=>?g74)
    case' g73 =>
     simp only [gsb]; go_simp; change K _ (W.alloc (.map #[] 0)); replace J:=J.am; clear hHeld; refine hK.out _ _ J.s (fun hHeld=>?_); clear hK K; generalize W.heap.size=m at *; generalize W.alloc (.map #[] 0)=W at *; refine rd1 9 (fun K hK=>?g75)
     case' g75 =>
      simp only [gsb]; go_simp; replace J:=J.ag; clear hHeld; refine hK.out _ _ J.s (fun hHeld=>?_); clear hK K; generalize W.heap.size=gs at *; generalize W.alloc (.cells sc0 3)=W at *; refine tky 10 rfl (yields_bld (by rfl) rfl (by kernel_rfl) (bFd n q gf gs)) hHeld ?_; simp only [Act.put]; refine rd1 11 (fun K hK=>?g76)
      case' g76 =>
       simp only [gsb,gsa]; go_simp; replace J:=J.ab; clear hHeld; refine hK.out _ _ J.s (fun hHeld=>?_); clear hK K; generalize W.heap.size=fb at *; generalize W.alloc (fdO n q gf gs)=W at *; refine tky 12 rfl (yields_bld (by rfl) rfl (by kernel_rfl) (bWk dv dom delay narrow unroll th m fb)) hHeld ?_; simp only [Act.put]; refine Shut.out ?l77
    case' g74 =>
     simp only [gsb]; go_simp; replace J:=J.ag; clear hHeld; refine hK.out _ _ J.s (fun hHeld=>?_); clear hK K; generalize W.heap.size=gs at *; generalize W.alloc (.cells sc0 3)=W at *; refine tky 10 rfl (yields_bld (by rfl) rfl (by kernel_rfl) (bFd n q gf gs)) hHeld ?_; simp only [Act.put]; refine rd2 2 11 (fun K hK=>?g78) (fun K hK=>?g79)
     case' g78 =>
      simp only [gsb,gsa]; go_simp; change K _ (W.alloc (.map #[] 0)); replace J:=J.am; clear hHeld; refine hK.out _ _ J.s (fun hHeld=>?_); clear hK K; generalize W.heap.size=m at *; generalize W.alloc (.map #[] 0)=W at *; refine rd1 11 (fun K hK=>?g80)
      case' g80 =>
       simp only [gsb]; go_simp; replace J:=J.ab; clear hHeld; refine hK.out _ _ J.s (fun hHeld=>?_); clear hK K; generalize W.heap.size=fb at *; generalize W.alloc (fdO n q gf gs)=W at *; refine tky 12 rfl (yields_bld (by rfl) rfl (by kernel_rfl) (bWk dv dom delay narrow unroll th m fb)) hHeld ?_; simp only [Act.put]; refine Shut.out ?l81
     case' g79 =>
      simp only [gsb,gsa]; go_simp; replace J:=J.ab; clear hHeld; refine hK.out _ _ J.s (fun hHeld=>?_); clear hK K; generalize W.heap.size=fb at *; generalize W.alloc (fdO n q gf gs)=W at *; refine rd1 2 (fun K hK=>?g82)
      case' g82 =>
       simp only [gsb]; go_simp; change K _ (W.alloc (.map #[] 0)); replace J:=J.am; clear hHeld; refine hK.out _ _ J.s (fun hHeld=>?_); clear hK K; generalize W.heap.size=m at *; generalize W.alloc (.map #[] 0)=W at *; refine tky 12 rfl (yields_bld (by rfl) rfl (by kernel_rfl) (bWk dv dom delay narrow unroll th m fb)) hHeld ?_; simp only [Act.put]; refine Shut.out ?l83
  case' g3 =>
   simp only [gsb,gsa]; go_simp; replace J:=J.ag; clear hHeld; refine hK.out _ _ J.s (fun hHeld=>?_); clear hK K; generalize W.heap.size=gs at *; generalize W.alloc (.cells sc0 3)=W at *; refine rd3 2 6 13 (fun K hK=>?g84) (fun K hK=>?g85) (fun K hK=>?g86)
   case' g84 =>
    simp only [gsb]; go_simp; change K _ (W.alloc (.map #[] 0)); replace J:=J.am; clear hHeld; refine hK.out _ _ J.s (fun hHeld=>?_); clear hK K; generalize W.heap.size=m at *; generalize W.alloc (.map #[] 0)=W at *; refine rd2 6 13 (fun K hK=>?g87) (fun K hK=>?g88)
    case' g87 =>
     simp only [gsb]; go_simp; replace J:=J.af; clear hHeld; refine hK.out _ _ J.s (fun hHeld=>?_); clear hK K; generalize W.heap.size=gf at *; generalize W.alloc (.cells fc0 203)=W at *; refine tky 10 rfl (yields_bld (by rfl) rfl (by kernel_rfl) (bFd n q gf gs)) hHeld ?_; simp only [Act.put]; refine rd2 11 13 (fun K hK=>?g89) (fun K hK=>?g90)
     case' g89 =>
      simp only [gsb,gsa]; go_simp; replace J:=J.ab; clear hHeld; refine hK.out _ _ J.s (fun hHeld=>?_); clear hK K; generalize W.heap.size=fb at *; generalize W.alloc (fdO n q gf gs)=W at *; refine tky 12 rfl (yields_bld (by rfl) rfl (by kernel_rfl) (bWk dv dom delay narrow unroll th m fb)) hHeld ?_; simp only [Act.put]; refine rd1 13 (fun K hK=>?g91)
      case' g91 =>
       simp only [gsb,gsa]; go_simp; replace J:=J.ak; clear hHeld; refine hK.out _ _ J.s (fun hHeld=>?_); clear hK K; generalize W.heap.size=kw at *; generalize W.alloc (.cells zeroWk 200)=W at *; refine Shut.out ?l92
     case' g90 =>
      simp only [gsb,gsa]; go_simp; replace J:=J.ak; clear hHeld; refine hK.out _ _ J.s (fun hHeld=>?_); clear hK K; generalize W.heap.size=kw at *; generalize W.alloc (.cells zeroWk 200)=W at *; refine rd1 11 (fun K hK=>?g93)
      case' g93 =>
       simp only [gsb]; go_simp; replace J:=J.ab; clear hHeld; refine hK.out _ _ J.s (fun hHeld=>?_); clear hK K; generalize W.heap.size=fb at *; generalize W.alloc (fdO n q gf gs)=W at *; refine tky 12 rfl (yields_bld (by rfl) rfl (by kernel_rfl) (bWk dv dom delay narrow unroll th m fb)) hHeld ?_; simp only [Act.put]; refine Shut.out ?l94
    case' g88 =>
     simp only [gsb]; go_simp; replace J:=J.ak; clear hHeld; refine hK.out _ _ J.s (fun hHeld=>?_); clear hK K; generalize W.heap.size=kw at *; generalize W.alloc (.cells zeroWk 200)=W at *; refine rd1 6 (fun K hK=>?g95)
     case' g95 =>
      simp only [gsb]; go_simp; replace J:=J.af; clear hHeld; refine hK.out _ _ J.s (fun hHeld=>?_); clear hK K; generalize W.heap.size=gf at *; generalize W.alloc (.cells fc0 203)=W at *; refine tky 10 rfl (yields_bld (by rfl) rfl (by kernel_rfl) (bFd n q gf gs)) hHeld ?_; simp only [Act.put]; refine rd1 11 (fun K hK=>?g96)
      case' g96 =>
       simp only [gsb,gsa]; go_simp; replace J:=J.ab; clear hHeld; refine hK.out _ _ J.s (fun hHeld=>?_); clear hK K; generalize W.heap.size=fb at *; generalize W.alloc (fdO n q gf gs)=W at *; refine tky 12 rfl (yields_bld (by rfl) rfl (by kernel_rfl) (bWk dv dom delay narrow unroll th m fb)) hHeld ?_; simp only [Act.put]; refine Shut.out ?l97
   case' g85 =>
    simp only [gsb]; go_simp; replace J:=J.af; clear hHeld; refine hK.out _ _ J.s (fun hHeld=>?_); clear hK K; generalize W.heap.size=gf at *; generalize W.alloc (.cells fc0 203)=W at *; refine tky 10 rfl (yields_bld (by rfl) rfl (by kernel_rfl) (bFd n q gf gs)) hHeld ?_; simp only [Act.put]; refine rd3 2 11 13 (fun K hK=>?g98) (fun K hK=>?g99) (fun K hK=>?g100)
    case' g98 =>
     simp only [gsb,gsa]; go_simp; change K _ (W.alloc (.map #[] 0)); replace J:=J.am; clear hHeld; refine hK.out _ _ J.s (fun hHeld=>?_); clear hK K; generalize W.heap.size=m at *; generalize W.alloc (.map #[] 0)=W at *; refine rd2 11 13 (fun K hK=>?g101) (fun K hK=>?g102)
     case' g101 =>
      simp only [gsb]; go_simp; replace J:=J.ab; clear hHeld; refine hK.out _ _ J.s (fun hHeld=>?_); clear hK K; generalize W.heap.size=fb at *; generalize W.alloc (fdO n q gf gs)=W at *; refine tky 12 rfl (yields_bld (by rfl) rfl (by kernel_rfl) (bWk dv dom delay narrow unroll th m fb)) hHeld ?_; simp only [Act.put]; refine rd1 13 (fun K hK=>?g103)
      case' g103 =>
       simp only [gsb,gsa]; go_simp; replace J:=J.ak; clear hHeld; refine hK.out _ _ J.s (fun hHeld=>?_); clear hK K; generalize W.heap.size=kw at *; generalize W.alloc (.cells zeroWk 200)=W at *; refine Shut.out ?l104
     case' g102 =>
      simp only [gsb]; go_simp; replace J:=J.ak; clear hHeld; refine hK.out _ _ J.s (fun hHeld=>?_); clear hK K; generalize W.heap.size=kw at *; generalize W.alloc (.cells zeroWk 200)=W at *; refine rd1 11 (fun K hK=>?g105)
      case' g105 =>
       simp only [gsb]; go_simp; replace J:=J.ab; clear hHeld; refine hK.out _ _ J.s (fun hHeld=>?_); clear hK K; generalize W.heap.size=fb at *; generalize W.alloc (fdO n q gf gs)=W at *; refine tky 12 rfl (yields_bld (by rfl) rfl (by kernel_rfl) (bWk dv dom delay narrow unroll th m fb)) hHeld ?_; simp only [Act.put]; refine Shut.out ?l106
    case' g99 =>
     simp only [gsb,gsa]; go_simp; replace J:=J.ab; clear hHeld; refine hK.out _ _ J.s (fun hHeld=>?_); clear hK K; generalize W.heap.size=fb at *; generalize W.alloc (fdO n q gf gs)=W at *; refine rd2 2 13 (fun K hK=>?g107) (fun K hK=>?g108)
     case' g107 =>
      simp only [gsb]; go_simp; change K _ (W.alloc (.map #[] 0)); replace J:=J.am; clear hHeld; refine hK.out _ _ J.s (fun hHeld=>?_); clear hK K; generalize W.heap.size=m at *; generalize W.alloc (.map #[] 0)=W at *; refine tky 12 rfl (yields_bld (by rfl) rfl (by kernel_rfl) (bWk dv dom delay narrow unroll th m fb)) hHeld ?_; simp only [Act.put]; refine rd1 13 (fun K hK=>?g109)
      case' g109 =>
       simp only [gsb,gsa]; go_simp; replace J:=J.ak; clear hHeld; refine hK.out _ _ J.s (fun hHeld=>?_); clear hK K; generalize W.heap.size=kw at *; generalize W.alloc (.cells zeroWk 200)=W at *; refine Shut.out ?l110
     case' g108 =>
      simp only [gsb]; go_simp; replace J:=J.ak; clear hHeld; refine hK.out _ _ J.s (fun hHeld=>?_); clear hK K; generalize W.heap.size=kw at *; generalize W.alloc (.cells zeroWk 200)=W at *; refine rd1 2 (fun K hK=>?g111)
      case' g111 =>
       simp only [gsb]; go_simp; change K _ (W.alloc (.map #[] 0)); replace J:=J.am; clear hHeld; refine hK.out _ _ J.s (fun hHeld=>?_); clear hK K; generalize W.heap.size=m at *; generalize W.alloc (.map #[] 0)=W at *; refine tky 12 rfl (yields_bld (by rfl) rfl (by kernel_rfl) (bWk dv dom delay narrow unroll th m fb)) hHeld ?_; simp only [Act.put]; refine Shut.out ?l112
    case' g100 =>
     simp only [gsb,gsa]; go_simp; replace J:=J.ak; clear hHeld; refine hK.out _ _ J.s (fun hHeld=>?_); clear hK K; generalize W.heap.size=kw at *; generalize W.alloc (.cells zeroWk 200)=W at *; refine rd2 2 11 (fun K hK=>?g113) (fun K hK=>?g114)
     case' g113 =>
      simp only [gsb]; go_simp; change K _ (W.alloc (.map #[] 0)); replace J:=J.am; clear hHeld; refine hK.out _ _ J.s (fun hHeld=>?_); clear hK K; generalize W.heap.size=m at *; generalize W.alloc (.map #[] 0)=W at *; refine rd1 11 (fun K hK=>?g115)
      case' g115 =>
       simp only [gsb]; go_simp; replace J:=J.ab; clear hHeld; refine hK.out _ _ J.s (fun hHeld=>?_); clear hK K; generalize W.heap.size=fb at *; generalize W.alloc (fdO n q gf gs)=W at *; refine tky 12 rfl (yields_bld (by rfl) rfl (by kernel_rfl) (bWk dv dom delay narrow unroll th m fb)) hHeld ?_; simp only [Act.put]; refine Shut.out ?l116
     case' g114 =>
      simp only [gsb]; go_simp; replace J:=J.ab; clear hHeld; refine hK.out _ _ J.s (fun hHeld=>?_); clear hK K; generalize W.heap.size=fb at *; generalize W.alloc (fdO n q gf gs)=W at *; refine rd1 2 (fun K hK=>?g117)
      case' g117 =>
       simp only [gsb]; go_simp; change K _ (W.alloc (.map #[] 0)); replace J:=J.am; clear hHeld; refine hK.out _ _ J.s (fun hHeld=>?_); clear hK K; generalize W.heap.size=m at *; generalize W.alloc (.map #[] 0)=W at *; refine tky 12 rfl (yields_bld (by rfl) rfl (by kernel_rfl) (bWk dv dom delay narrow unroll th m fb)) hHeld ?_; simp only [Act.put]; refine Shut.out ?l118
   case' g86 =>
    simp only [gsb]; go_simp; replace J:=J.ak; clear hHeld; refine hK.out _ _ J.s (fun hHeld=>?_); clear hK K; generalize W.heap.size=kw at *; generalize W.alloc (.cells zeroWk 200)=W at *; refine rd2 2 6 (fun K hK=>?g119) (fun K hK=>?g120)
    case' g119 =>
     simp only [gsb]; go_simp; change K _ (W.alloc (.map #[] 0)); replace J:=J.am; clear hHeld; refine hK.out _ _ J.s (fun hHeld=>?_); clear hK K; generalize W.heap.size=m at *; generalize W.alloc (.map #[] 0)=W at *; refine rd1 6 (fun K hK=>?g121)
     case' g121 =>
      simp only [gsb]; go_simp; replace J:=J.af; clear hHeld; refine hK.out _ _ J.s (fun hHeld=>?_); clear hK K; generalize W.heap.size=gf at *; generalize W.alloc (.cells fc0 203)=W at *; refine tky 10 rfl (yields_bld (by rfl) rfl (by kernel_rfl) (bFd n q gf gs)) hHeld ?_; simp only [Act.put]; refine rd1 11 (fun K hK=>?g122)
      case' g122 =>
       simp only [gsb,gsa]; go_simp; replace J:=J.ab; clear hHeld; refine hK.out _ _ J.s (fun hHeld=>?_); clear hK K; generalize W.heap.size=fb at *; generalize W.alloc (fdO n q gf gs)=W at *; refine tky 12 rfl (yields_bld (by rfl) rfl (by kernel_rfl) (bWk dv dom delay narrow unroll th m fb)) hHeld ?_; simp only [Act.put]; refine Shut.out ?l123
    case' g120 =>
     simp only [gsb]; go_simp; replace J:=J.af; clear hHeld; refine hK.out _ _ J.s (fun hHeld=>?_); clear hK K; generalize W.heap.size=gf at *; generalize W.alloc (.cells fc0 203)=W at *; refine tky 10 rfl (yields_bld (by rfl) rfl (by kernel_rfl) (bFd n q gf gs)) hHeld ?_; simp only [Act.put]; refine rd2 2 11 (fun K hK=>?g124) (fun K hK=>?g125)
     case' g124 =>
      simp only [gsb,gsa]; go_simp; change K _ (W.alloc (.map #[] 0)); replace J:=J.am; clear hHeld; refine hK.out _ _ J.s (fun hHeld=>?_); clear hK K; generalize W.heap.size=m at *; generalize W.alloc (.map #[] 0)=W at *; refine rd1 11 (fun K hK=>?g126)
      case' g126 =>
       simp only [gsb]; go_simp; replace J:=J.ab; clear hHeld; refine hK.out _ _ J.s (fun hHeld=>?_); clear hK K; generalize W.heap.size=fb at *; generalize W.alloc (fdO n q gf gs)=W at *; refine tky 12 rfl (yields_bld (by rfl) rfl (by kernel_rfl) (bWk dv dom delay narrow unroll th m fb)) hHeld ?_; simp only [Act.put]; refine Shut.out ?l127
     case' g125 =>
      simp only [gsb,gsa]; go_simp; replace J:=J.ab; clear hHeld; refine hK.out _ _ J.s (fun hHeld=>?_); clear hK K; generalize W.heap.size=fb at *; generalize W.alloc (fdO n q gf gs)=W at *; refine rd1 2 (fun K hK=>?g128)
      case' g128 =>
       simp only [gsb]; go_simp; change K _ (W.alloc (.map #[] 0)); replace J:=J.am; clear hHeld; refine hK.out _ _ J.s (fun hHeld=>?_); clear hK K; generalize W.heap.size=m at *; generalize W.alloc (.map #[] 0)=W at *; refine tky 12 rfl (yields_bld (by rfl) rfl (by kernel_rfl) (bWk dv dom delay narrow unroll th m fb)) hHeld ?_; simp only [Act.put]; refine Shut.out ?l129
  case' g4 =>
   simp only [gsb,gsa]; go_simp; replace J:=J.ak; clear hHeld; refine hK.out _ _ J.s (fun hHeld=>?_); clear hK K; generalize W.heap.size=kw at *; generalize W.alloc (.cells zeroWk 200)=W at *; refine rd3 2 6 9 (fun K hK=>?g130) (fun K hK=>?g131) (fun K hK=>?g132)
   case' g130 =>
    simp only [gsb]; go_simp; change K _ (W.alloc (.map #[] 0)); replace J:=J.am; clear hHeld; refine hK.out _ _ J.s (fun hHeld=>?_); clear hK K; generalize W.heap.size=m at *; generalize W.alloc (.map #[] 0)=W at *; refine rd2 6 9 (fun K hK=>?g133) (fun K hK=>?g134)
    case' g133 =>
     simp only [gsb]; go_simp; replace J:=J.af; clear hHeld; refine hK.out _ _ J.s (fun hHeld=>?_); clear hK K; generalize W.heap.size=gf at *; generalize W.alloc (.cells fc0 203)=W at *; refine rd1 9 (fun K hK=>?g135)
     case' g135 =>
      simp only [gsb]; go_simp; replace J:=J.ag; clear hHeld; refine hK.out _ _ J.s (fun hHeld=>?_); clear hK K; generalize W.heap.size=gs at *; generalize W.alloc (.cells sc0 3)=W at *; refine tky 10 rfl (yields_bld (by rfl) rfl (by kernel_rfl) (bFd n q gf gs)) hHeld ?_; simp only [Act.put]; refine rd1 11 (fun K hK=>?g136)
      case' g136 =>
       simp only [gsb,gsa]; go_simp; replace J:=J.ab; clear hHeld; refine hK.out _ _ J.s (fun hHeld=>?_); clear hK K; generalize W.heap.size=fb at *; generalize W.alloc (fdO n q gf gs)=W at *; refine tky 12 rfl (yields_bld (by rfl) rfl (by kernel_rfl) (bWk dv dom delay narrow unroll th m fb)) hHeld ?_; simp only [Act.put]; refine Shut.out ?l137
    case' g134 =>
     simp only [gsb]; go_simp; replace J:=J.ag; clear hHeld; refine hK.out _ _ J.s (fun hHeld=>?_); clear hK K; generalize W.heap.size=gs at *; generalize W.alloc (.cells sc0 3)=W at *; refine rd1 6 (fun K hK=>?g138)
     case' g138 =>
      simp only [gsb]; go_simp; replace J:=J.af; clear hHeld; refine hK.out _ _ J.s (fun hHeld=>?_); clear hK K; generalize W.heap.size=gf at *; generalize W.alloc (.cells fc0 203)=W at *; refine tky 10 rfl (yields_bld (by rfl) rfl (by kernel_rfl) (bFd n q gf gs)) hHeld ?_; simp only [Act.put]; refine rd1 11 (fun K hK=>?g139)
      case' g139 =>
       simp only [gsb,gsa]; go_simp; replace J:=J.ab; clear hHeld; refine hK.out _ _ J.s (fun hHeld=>?_); clear hK K; generalize W.heap.size=fb at *; generalize W.alloc (fdO n q gf gs)=W at *; refine tky 12 rfl (yields_bld (by rfl) rfl (by kernel_rfl) (bWk dv dom delay narrow unroll th m fb)) hHeld ?_; simp only [Act.put]; refine Shut.out ?l140
   case' g131 =>
    simp only [gsb]; go_simp; replace J:=J.af; clear hHeld; refine hK.out _ _ J.s (fun hHeld=>?_); clear hK K; generalize W.heap.size=gf at *; generalize W.alloc (.cells fc0 203)=W at *; refine rd2 2 9 (fun K hK=>?g141) (fun K hK=>?g142)
    case' g141 =>
     simp only [gsb]; go_simp; change K _ (W.alloc (.map #[] 0)); replace J:=J.am; clear hHeld; refine hK.out _ _ J.s (fun hHeld=>?_); clear hK K; generalize W.heap.size=m at *; generalize W.alloc (.map #[] 0)=W at *; refine rd1 9 (fun K hK=>?g143)
     case' g143 =>
      simp only [gsb]; go_simp; replace J:=J.ag; clear hHeld; refine hK.out _ _ J.s (fun hHeld=>?_); clear hK K; generalize W.heap.size=gs at *; generalize W.alloc (.cells sc0 3)=W at *; refine tky 10 rfl (yields_bld (by rfl) rfl (by kernel_rfl) (bFd n q gf gs)) hHeld ?_; simp only [Act.put]; refine rd1 11 (fun K hK=>?g144)
      case' g144 =>
       simp only [gsb,gsa]; go_simp; replace J:=J.ab; clear hHeld; refine hK.out _ _ J.s (fun hHeld=>?_); clear hK K; generalize W.heap.size=fb at *; generalize W.alloc (fdO n q gf gs)=W at *; refine tky 12 rfl (yields_bld (by rfl) rfl (by kernel_rfl) (bWk dv dom delay narrow unroll th m fb)) hHeld ?_; simp only [Act.put]; refine Shut.out ?l145
    case' g142 =>
     simp only [gsb]; go_simp; replace J:=J.ag; clear hHeld; refine hK.out _ _ J.s (fun hHeld=>?_); clear hK K; generalize W.heap.size=gs at *; generalize W.alloc (.cells sc0 3)=W at *; refine tky 10 rfl (yields_bld (by rfl) rfl (by kernel_rfl) (bFd n q gf gs)) hHeld ?_; simp only [Act.put]; refine rd2 2 11 (fun K hK=>?g146) (fun K hK=>?g147)
     case' g146 =>
      simp only [gsb,gsa]; go_simp; change K _ (W.alloc (.map #[] 0)); replace J:=J.am; clear hHeld; refine hK.out _ _ J.s (fun hHeld=>?_); clear hK K; generalize W.heap.size=m at *; generalize W.alloc (.map #[] 0)=W at *; refine rd1 11 (fun K hK=>?g148)
      case' g148 =>
       simp only [gsb]; go_simp; replace J:=J.ab; clear hHeld; refine hK.out _ _ J.s (fun hHeld=>?_); clear hK K; generalize W.heap.size=fb at *; generalize W.alloc (fdO n q gf gs)=W at *; refine tky 12 rfl (yields_bld (by rfl) rfl (by kernel_rfl) (bWk dv dom delay narrow unroll th m fb)) hHeld ?_; simp only [Act.put]; refine Shut.out ?l149
     case' g147 =>
      simp only [gsb,gsa]; go_simp; replace J:=J.ab; clear hHeld; refine hK.out _ _ J.s (fun hHeld=>?_); clear hK K; generalize W.heap.size=fb at *; generalize W.alloc (fdO n q gf gs)=W at *; refine rd1 2 (fun K hK=>?g150)
      case' g150 =>
       simp only [gsb]; go_simp; change K _ (W.alloc (.map #[] 0)); replace J:=J.am; clear hHeld; refine hK.out _ _ J.s (fun hHeld=>?_); clear hK K; generalize W.heap.size=m at *; generalize W.alloc (.map #[] 0)=W at *; refine tky 12 rfl (yields_bld (by rfl) rfl (by kernel_rfl) (bWk dv dom delay narrow unroll th m fb)) hHeld ?_; simp only [Act.put]; refine Shut.out ?l151
   case' g132 =>
    simp only [gsb]; go_simp; replace J:=J.ag; clear hHeld; refine hK.out _ _ J.s (fun hHeld=>?_); clear hK K; generalize W.heap.size=gs at *; generalize W.alloc (.cells sc0 3)=W at *; refine rd2 2 6 (fun K hK=>?g152) (fun K hK=>?g153)
    case' g152 =>
     simp only [gsb]; go_simp; change K _ (W.alloc (.map #[] 0)); replace J:=J.am; clear hHeld; refine hK.out _ _ J.s (fun hHeld=>?_); clear hK K; generalize W.heap.size=m at *; generalize W.alloc (.map #[] 0)=W at *; refine rd1 6 (fun K hK=>?g154)
     case' g154 =>
      simp only [gsb]; go_simp; replace J:=J.af; clear hHeld; refine hK.out _ _ J.s (fun hHeld=>?_); clear hK K; generalize W.heap.size=gf at *; generalize W.alloc (.cells fc0 203)=W at *; refine tky 10 rfl (yields_bld (by rfl) rfl (by kernel_rfl) (bFd n q gf gs)) hHeld ?_; simp only [Act.put]; refine rd1 11 (fun K hK=>?g155)
      case' g155 =>
       simp only [gsb,gsa]; go_simp; replace J:=J.ab; clear hHeld; refine hK.out _ _ J.s (fun hHeld=>?_); clear hK K; generalize W.heap.size=fb at *; generalize W.alloc (fdO n q gf gs)=W at *; refine tky 12 rfl (yields_bld (by rfl) rfl (by kernel_rfl) (bWk dv dom delay narrow unroll th m fb)) hHeld ?_; simp only [Act.put]; refine Shut.out ?l156
    case' g153 =>
     simp only [gsb]; go_simp; replace J:=J.af; clear hHeld; refine hK.out _ _ J.s (fun hHeld=>?_); clear hK K; generalize W.heap.size=gf at *; generalize W.alloc (.cells fc0 203)=W at *; refine tky 10 rfl (yields_bld (by rfl) rfl (by kernel_rfl) (bFd n q gf gs)) hHeld ?_; simp only [Act.put]; refine rd2 2 11 (fun K hK=>?g157) (fun K hK=>?g158)
     case' g157 =>
      simp only [gsb,gsa]; go_simp; change K _ (W.alloc (.map #[] 0)); replace J:=J.am; clear hHeld; refine hK.out _ _ J.s (fun hHeld=>?_); clear hK K; generalize W.heap.size=m at *; generalize W.alloc (.map #[] 0)=W at *; refine rd1 11 (fun K hK=>?g159)
      case' g159 =>
       simp only [gsb]; go_simp; replace J:=J.ab; clear hHeld; refine hK.out _ _ J.s (fun hHeld=>?_); clear hK K; generalize W.heap.size=fb at *; generalize W.alloc (fdO n q gf gs)=W at *; refine tky 12 rfl (yields_bld (by rfl) rfl (by kernel_rfl) (bWk dv dom delay narrow unroll th m fb)) hHeld ?_; simp only [Act.put]; refine Shut.out ?l160
     case' g158 =>
      simp only [gsb,gsa]; go_simp; replace J:=J.ab; clear hHeld; refine hK.out _ _ J.s (fun hHeld=>?_); clear hK K; generalize W.heap.size=fb at *; generalize W.alloc (fdO n q gf gs)=W at *; refine rd1 2 (fun K hK=>?g161)
      case' g161 =>
       simp only [gsb]; go_simp; change K _ (W.alloc (.map #[] 0)); replace J:=J.am; clear hHeld; refine hK.out _ _ J.s (fun hHeld=>?_); clear hK K; generalize W.heap.size=m at *; generalize W.alloc (.map #[] 0)=W at *; refine tky 12 rfl (yields_bld (by rfl) rfl (by kernel_rfl) (bWk dv dom delay narrow unroll th m fb)) hHeld ?_; simp only [Act.put]; refine Shut.out ?l162
  all_goals
   unfold Shut
   refine rd1 14 fun K hK=>?_
   simp only [gsb,gsa]
   rw [if_pos (by rfl)]
   have hfin:=RpAt.fin (T:=T) (dom:=dom) (delay:=delay) (narrow:=narrow) (unroll:=unroll) (th:=th) HN.out ⟨(J.xk kw rfl).1,(J.xf gf rfl).1,(J.xg gs rfl).1,(J.xm m rfl).1,(J.xb fb gf gs rfl rfl rfl).1⟩ (J.xm m rfl).2 (by rw [← HFC.out]; exact (J.xf gf rfl).2) (by rw [← HSC.out]; exact (J.xg gs rfl).2) (J.xb fb gf gs rfl rfl rfl).2 (J.xk kw rfl).2 J.s
   refine wp_store_mid _ _ _ rfl _ _ (wkA dv dom delay narrow unroll th m (some ⟨fb,0,none⟩)) rfl rfl (by rw [show (wkA dv dom delay narrow unroll th m (some ⟨fb,0,none⟩)).size=8 from rfl]; exact there_of (J.xk kw rfl).2) (by rw [infoWk]; rfl) (wkA_one _ _ _ _ _ _ _ _) ?_
   refine hK.out _ _ hfin.2 (fun _=>?_)
   clear hK K
   refine wpAnyH_done (by kernel_rfl) ?_ _
   go_wp2_with fail
   go_meet
   case rel=>exact ⟨_,_,_,_,_,rfl,hfin⟩
 case rest =>
  obtain ⟨kw,m,fb,gf,gs,rfl,⟨hl,hkw,hA⟩,hS⟩:=hcut
  have hws:(wk (rpC w dv dom delay narrow unroll th n q m fb gf gs) true).size=8:=rfl
  have hw7:(wk (rpC w dv dom delay narrow unroll th n q m fb gf gs) true)[7]?=some (.pointer (some ⟨fb,0,none⟩)):=rfl
  have hcb:Sp.cB t (0,0)=((p:Int),(q:Int)):=HBL.out.cb
  have hcs:=Sp.cB_sm t (0,0) hsm
  rw [hcb] at hcs
  have hpe:p=Sp.pB t:=by injection hcs with h1 h2; simp at h1; omega
  have hqe:q=Sp.qB t:=by injection hcs with h1 h2; simp at h2; omega
  have hnp:=HNP.out
  obtain ⟨F0,hF0⟩:∃ F0:Fd,F0=(List.replicate n none,List.replicate q 0):=⟨_,rfl⟩
  have l1:F0.1.length=n:=by rw [hF0]; simp
  have l2:F0.2.length=q:=by rw [hF0]; simp
  rw [← hF0] at hA
  obtain ⟨RR,hRR⟩:∃ RR:List TelT × ST,RR=Sp.anB (Dm π) ⟨delay,narrow,unroll⟩ t (0,0) (some fun _=>vNum 0):=⟨_,rfl⟩
  have hrng:Rng true F0 RR.1:=fun _ ev hev=>by
   rw [hRR] at hev
   have:=Sp.anB_in (D:=Dm π) ⟨delay,narrow,unroll⟩ t (0,0) hsm _ ev hev
   cases ev with
   | point a s=>obtain ⟨e1,e2⟩:=this; simp at e1 e2; exact ⟨e1,by rw [l1]; omega⟩
   | site a s=>obtain ⟨e1,e2⟩:=this; simp at e1 e2; exact ⟨e1,by rw [l2]; omega⟩
  have hwn:∀ k:Fin 8,Wv ((fun _=>vNum 0:Fin 8→Sp.Cg) k):=fun _=>(Kr π).wnum 0 ⟨by omega,by omega⟩
  have hwr:Sp.Wf (Kr π) RR.2:=by rw [hRR]; exact Sp.anB_wf (K:=Kr π) _ t HBL.out.ok _ _ (Sp.Wf.some hwn)
  have HREP:Hid (Sp.reportOf (Dm π) ⟨delay,narrow,unroll⟩ t=told π true (told π true F0 RR.1) (tlP π (p:Nat) RR.2)):=by
   unfold Hid Sp.reportOf
   rw [hcb,← told_append,hF0,hRR]
   show Sp.tell (Dm π) (List.replicate (((p:Nat):Int) + 1).toNat none,List.replicate (((q:Nat):Int)).toNat 0) _=_
   rw [show (((p:Nat):Int) + 1).toNat=n by omega,show (((q:Nat):Int)).toNat=q by omega]
   rfl
  have hM:RpM w pa ca (rpC w dv dom delay narrow unroll th n q m fb gf gs) π T kw F0 wc:=⟨hA,hkw,hS⟩
  obtain ⟨ua,hua⟩:∃ ua,ua=stC RR.2:=⟨_,rfl⟩
  have u17:ua.size=17:=by rw [hua]; exact stC_size _
  have u1o:ua.all (·.oneCell')=true:=by rw [hua]; exact stC_one _
  obtain ⟨xa,hxa⟩:∃ xa,xa=stC (some fun _=>vNum 0):=⟨_,rfl⟩
  have hBA:=HBL.out.calls (rpC w dv dom delay narrow unroll th n q m fb gf gs) π T true wc (fun k h1 h2 h3=>by rw [hS.b.block k (by omega)]; exact HSO.out k h1 h2 h3) hhi hna hun HLP.out
  have HBK:Hid (∀ W,AKeep (rpC w dv dom delay narrow unroll th n q m fb gf gs) wc W→RpM w pa ca (rpC w dv dom delay narrow unroll th n q m fb gf gs) π T kw F0 W→Calls Tryz.prog 78 #[.agg (wk (rpC w dv dom delay narrow unroll th n q m fb gf gs) true),.slice va vn vc,.agg xa] W fun r w'=>r=.returned (.agg ua)∧RpM w pa ca (rpC w dv dom delay narrow unroll th n q m fb gf gs) π T kw (told π true F0 RR.1) w'∧AKeep (rpC w dv dom delay narrow unroll th n q m fb gf gs) W w'):=fun W hk hW=>by
   have h1:Calls Tryz.prog 78 #[.agg (wk (rpC w dv dom delay narrow unroll th n q m fb gf gs) true),.slice va vn vc,.agg (stC (some fun _=>vNum 0))] W (Post (rpC w dv dom delay narrow unroll th n q m fb gf gs) π T F0 true W RR.1 RR.2):=by
    rw [hRR] at hrng ⊢
    exact hBA F0 W (some fun _=>vNum 0) hk hW.a (Sp.Wf.some hwn) hrng
   unfold Post at h1
   rw [← hua,← hxa] at h1
   exact h1.mono fun r w' k=>⟨k.1,hW.keep rfl ⟨hl.2.1,hl.2.2.1,hl.2.2.2⟩ k.2.1 k.2.2,k.2.2⟩
  have HNU:Hid (∀ W,RpM w pa ca (rpC w dv dom delay narrow unroll th n q m fb gf gs) π T kw F0 W→Calls Tryz.prog 301 #[dv,.int .i16 0] W fun e w'=>e=.returned (.agg #[.int .i64 (((vNum 0).m:Nat):Int),.int .i64 (vNum 0).r])∧Below W.heap.size W w'):=fun W hW=>dNumber hW.a.does 0 (by omega) (by omega)
  have HSM:Hid (∀ W,Calls Tryz.prog 79 #[.agg #[.int .i64 (((vNum 0).m:Nat):Int),.int .i64 (vNum 0).r]] W fun e w'=>e=.returned (.agg xa)∧Below W.heap.size W w'):=fun W=>by rw [hxa]; exact same_calls (vNum 0) W
  have HPT:Hid (∀ W,RpM w pa ca (rpC w dv dom delay narrow unroll th n q m fb gf gs) π T kw (told π true F0 RR.1) W→Calls Tryz.prog 80 #[.agg (wk (rpC w dv dom delay narrow unroll th n q m fb gf gs) true),.int .i64 (p:Nat),.agg ua] W fun r w'=>r=.returned (.tuple #[])∧RpM w pa ca (rpC w dv dom delay narrow unroll th n q m fb gf gs) π T kw (told π true (told π true F0 RR.1) (tlP π (p:Nat) RR.2)) w'∧AKeep (rpC w dv dom delay narrow unroll th n q m fb gf gs) W w'):=fun W hW=>by
   have h1:=pointS_calls (rpC w dv dom delay narrow unroll th n q m fb gf gs) π T (told π true F0 RR.1) true W hW.a (p:Nat) RR.2 hwr (fun _=>⟨by omega,by rw [(told_len π true F0 RR.1).1,l1]; omega⟩)
   rw [← hua] at h1
   exact h1.mono fun r w' k=>⟨k.1,hW.keep rfl ⟨hl.2.1,hl.2.2.1,hl.2.2.2⟩ k.2.1 k.2.2,k.2.2⟩
  obtain ⟨F2,hF2⟩:∃ F2,F2=told π true (told π true F0 RR.1) (tlP π (p:Nat) RR.2):=⟨_,rfl⟩
  rw [← hF2] at HPT HREP
  have l3:F2.1.length=n:=by rw [hF2,(told_len ..).1,(told_len ..).1,l1]
  have l4:F2.2.length=q:=by rw [hF2,(told_len ..).2,(told_len ..).2,l2]
  have HFS:Hid (∀ W,RpM w pa ca (rpC w dv dom delay narrow unroll th n q m fb gf gs) π T kw F2 W→Calls Tryz.prog 81 #[.iface 128 dv,.slice (some ⟨gf,0,none⟩) n n] W fun r w'=>r=.returned (.slice (some ⟨W.heap.size,0,none⟩) n n)∧w'.heap[W.heap.size]?=some (.cells (fcCells F2.1).toArray 76)∧Below W.heap.size W w'):=fun W hW=>by
   have h1:=facts_calls (B:=w.heap.size) (π:=π) dv gf n F2.1 W hW.a.does hW.a.hgf hW.a.wfF (by omega)
   rw [l3] at h1
   exact h1
  have HM:Hid (RpM w pa ca (rpC w dv dom delay narrow unroll th n q m fb gf gs) π T kw F0 wc):=hM
  have hwm:∀ w,(method 587 128 dv "Number").run Tryz.prog w=.ok (301,dv) w:=fun w=>by kernel_rfl
  have HL3:Hid (F2.1.length=n):=l3
  have HL4:Hid (F2.2.length=q):=l4
  have HL:Hid (_∧_∧_∧_):=hl
  clear hF2 l1 l2 l3 l4 hF0 hRR hrng hwn hwr hM hA hkw hS hBA hua hxa hcb hcs hpe hqe hnp hl HBL HSO HLP HN hmS hmI HFC HSC hwrap
  obtain ⟨wa,hwa⟩:∃ wa,wa=wk (rpC w dv dom delay narrow unroll th n q m fb gf gs) true:=⟨_,rfl⟩
  rw [← hwa] at hws hw7 HBK HPT
  have hMO:∀ F W,RpM w pa ca (rpC w dv dom delay narrow unroll th n q m fb gf gs) π T kw F W→W.heap[kw]?=some (.cells wa 200):=fun F W hW=>by rw [hwa]; exact hW.o
  have HMO:Hid (∀ F W,_→_):=hMO
  clear hwa hMO
  generalize hCC:rpC w dv dom delay narrow unroll th n q m fb gf gs=C at *
  have HCC:Hid (rpC w dv dom delay narrow unroll th n q m fb gf gs=C):=hCC
  clear hCC
  go_wp2_with fail
  go_cut [8] from 22 to 28 (fun v8 wd=>∃ k8:Nat,v8=.pointer (some ⟨k8,0,none⟩)∧Hid (RpM w pa ca C π T kw (told π true F0 RR.1) wd∧wd.heap[k8]?=some (.cells ua 203)∧k8 ≠ C.gf∧k8 ≠ C.gs∧k8 ≠ C.m))
  case first =>
   have M0:RpM w pa ca C π T kw F0 wc.drew:=HM.out.call (Below.refl _ _).drew
   have K0:AKeep C wc wc.drew:=AKeep.of_below (Below.refl _ _).drew HM.out.a.le
   refine wp_region_held_drew (S:=fun w':World=>∃ F',RpM w pa ca C π T kw F' w') (by kernel_rfl) ⟨_,M0⟩ (fun hHeld=>?_)
   generalize wc.drew=V0 at *
   refine tky 0 rfl (yieldsIf_load_mid (by rfl) _ _ rfl _ _ rfl (wa).toList _ (fun w' h=>(h.elim fun F h=>range_of (HMO.out F _ h))) Tryz.underlying200 rfl (by rw [infoWk,Array.length_toList,hws])) hHeld ?_
   simp only [Act.put]
   refine tk 1 (.pointer (some ⟨w.heap.size,0,none⟩)) rfl (fun w' h=>by go_simp) hHeld ?_
   simp only [Act.put]
   refine tk 2 (.slice va vn vc) rfl (fun w' h=>by obtain ⟨_,h⟩:=h; have d:=cell_of h.s.p 0 hp0; go_simp) hHeld ?_
   simp only [Act.put]
   refine tk 3 (.iface 128 dv) rfl (fun w' h=>by go_simp) hHeld ?_
   simp only [Act.put]
   refine wpAnyH_ready (rs:=[4,7]) (by kernel_rfl) (by simp) ?_
   refine AllReadyH.cons (i:=4) (o:=_) (by rfl) ?_ (AllReadyH.cons (i:=7) (o:=_) (by rfl) ?_ AllReadyH.nil)
   ·intro K hK
    simp only [gsb,gsa,Array.toArray_toList]
    go_simp
    refine (HNU.out _ M0).mono ?_
    rintro r V1 ⟨rfl,b1⟩
    go_wp2_with fail
    have M1:=M0.call b1
    have K1:=K0.trans (AKeep.of_below b1 M0.a.le)
    refine hK.out _ _ ⟨_,M1⟩ (fun hHeld=>?_)
    clear hK K b1
    refine wpAnyH_ready (rs:=[5,7]) (by kernel_rfl) (by simp) ?_
    refine AllReadyH.cons (i:=5) (o:=_) (by rfl) ?_ (AllReadyH.cons (i:=7) (o:=_) (by rfl) ?_ AllReadyH.nil)
    ·intro K hK
     simp only [gsb]
     go_simp
     refine (HSM.out _).mono ?_
     rintro r V2 ⟨rfl,b2⟩
     go_wp2_with fail
     have M2:=M1.call b2
     have K2:=K1.trans (AKeep.of_below b2 M1.a.le)
     refine hK.out _ _ ⟨_,M2⟩ (fun hHeld=>?_)
     clear hK K b2
     refine wpAnyH_ready (rs:=[6,7]) (by kernel_rfl) (by simp) ?_
     refine AllReadyH.cons (i:=6) (o:=_) (by rfl) ?_ (AllReadyH.cons (i:=7) (o:=_) (by rfl) ?_ AllReadyH.nil)
     ·intro K hK
      simp only [gsb]
      go_simp
      refine (HBK.out _ K2 M2).mono ?_
      rintro r V3 ⟨rfl,M3,b3⟩
      go_wp2_with fail
      have K3:=K2.trans b3
      refine hK.out _ _ ⟨_,M3⟩ (fun hHeld=>?_)
      clear hK K b3
      refine wpAnyH_ready (rs:=[7]) (by kernel_rfl) (by simp) ?_
      refine AllReadyH.cons (i:=7) (o:=_) (by rfl) ?_ AllReadyH.nil
      ·intro K hK
       simp only [gsb]
       have hz4:=heap_alloc_new V3 (.cells #[.bool false,.int .i64 0,.int .i64 0,.int .i64 0,.int .i64 0,.int .i64 0,.int .i64 0,.int .i64 0,.int .i64 0,.int .i64 0,.int .i64 0,.int .i64 0,.int .i64 0,.int .i64 0,.int .i64 0,.int .i64 0,.int .i64 0] 203)
       have M4:=M3.call (below_alloc1 V3 (.cells #[.bool false,.int .i64 0,.int .i64 0,.int .i64 0,.int .i64 0,.int .i64 0,.int .i64 0,.int .i64 0,.int .i64 0,.int .i64 0,.int .i64 0,.int .i64 0,.int .i64 0,.int .i64 0,.int .i64 0,.int .i64 0,.int .i64 0] 203))
       have K4:=K3.trans (AKeep.of_below (below_alloc1 V3 (.cells #[.bool false,.int .i64 0,.int .i64 0,.int .i64 0,.int .i64 0,.int .i64 0,.int .i64 0,.int .i64 0,.int .i64 0,.int .i64 0,.int .i64 0,.int .i64 0,.int .i64 0,.int .i64 0,.int .i64 0,.int .i64 0,.int .i64 0] 203)) M3.a.le)
       have hs4:wc.heap.size≤V3.heap.size:=K3.below.size
       go_simp
       refine hK.out _ _ ⟨_,M4⟩ (fun hHeld=>?_)
       clear hK K
       generalize V3.alloc (.cells #[.bool false,.int .i64 0,.int .i64 0,.int .i64 0,.int .i64 0,.int .i64 0,.int .i64 0,.int .i64 0,.int .i64 0,.int .i64 0,.int .i64 0,.int .i64 0,.int .i64 0,.int .i64 0,.int .i64 0,.int .i64 0,.int .i64 0] 203)=V4 at *
       generalize V3.heap.size=a4 at *
       refine rd1 8 fun K hK=>?_
       simp only [gsb]
       rw [if_pos (by rfl)]
       refine wr_st _ _ rfl rfl rfl (there_of hz4) u17 u1o ?_
       have hlt:=HM.out.a.lt
       have hne:a4 ≠ C.gf∧a4 ≠ C.gs∧a4 ≠ C.m:=⟨by omega,by omega,by omega⟩
       have hfin:RpM w pa ca C π T kw (told π true F0 RR.1) (V4.setCells a4 0 ua.toList):=M4.put HM.out hs4 ua.toList
       refine hK.out _ _ ⟨_,hfin⟩ (fun _=>?_)
       clear hK K
       refine wpAnyH_done (by kernel_rfl) ?_ _
       go_wp2_with fail
       go_meet
       case rel=>exact ⟨_,rfl,hfin,setCells_whole hz4 (by rw [u17]; rfl),hne⟩
     ·intro K hK
      simp only [gsb]
      have hz5:=heap_alloc_new V2 (.cells #[.bool false,.int .i64 0,.int .i64 0,.int .i64 0,.int .i64 0,.int .i64 0,.int .i64 0,.int .i64 0,.int .i64 0,.int .i64 0,.int .i64 0,.int .i64 0,.int .i64 0,.int .i64 0,.int .i64 0,.int .i64 0,.int .i64 0] 203)
      have M5:=M2.call (below_alloc1 V2 (.cells #[.bool false,.int .i64 0,.int .i64 0,.int .i64 0,.int .i64 0,.int .i64 0,.int .i64 0,.int .i64 0,.int .i64 0,.int .i64 0,.int .i64 0,.int .i64 0,.int .i64 0,.int .i64 0,.int .i64 0,.int .i64 0,.int .i64 0] 203))
      have K5:=K2.trans (AKeep.of_below (below_alloc1 V2 (.cells #[.bool false,.int .i64 0,.int .i64 0,.int .i64 0,.int .i64 0,.int .i64 0,.int .i64 0,.int .i64 0,.int .i64 0,.int .i64 0,.int .i64 0,.int .i64 0,.int .i64 0,.int .i64 0,.int .i64 0,.int .i64 0,.int .i64 0] 203)) M2.a.le)
      have hs5:wc.heap.size≤V2.heap.size:=K2.below.size
      go_simp
      refine hK.out _ _ ⟨_,M5⟩ (fun hHeld=>?_)
      clear hK K
      generalize V2.alloc (.cells #[.bool false,.int .i64 0,.int .i64 0,.int .i64 0,.int .i64 0,.int .i64 0,.int .i64 0,.int .i64 0,.int .i64 0,.int .i64 0,.int .i64 0,.int .i64 0,.int .i64 0,.int .i64 0,.int .i64 0,.int .i64 0,.int .i64 0] 203)=V5 at *
      generalize V2.heap.size=a5 at *
      refine wpAnyH_ready (rs:=[6]) (by kernel_rfl) (by simp) ?_
      refine AllReadyH.cons (i:=6) (o:=_) (by rfl) ?_ AllReadyH.nil
      ·intro K hK
       simp only [gsb]
       go_simp
       refine (HBK.out _ K5 M5).mono ?_
       rintro r V6 ⟨rfl,M6,b6⟩
       go_wp2_with fail
       have K6:=K5.trans b6
       have hz6:=b6.mine HM.out.a hs5 hz5
       refine hK.out _ _ ⟨_,M6⟩ (fun hHeld=>?_)
       clear hK K b6
       refine rd1 8 fun K hK=>?_
       simp only [gsb]
       rw [if_pos (by rfl)]
       refine wr_st _ _ rfl rfl rfl (there_of hz6) u17 u1o ?_
       have hlt:=HM.out.a.lt
       have hne:a5 ≠ C.gf∧a5 ≠ C.gs∧a5 ≠ C.m:=⟨by omega,by omega,by omega⟩
       have hfin:RpM w pa ca C π T kw (told π true F0 RR.1) (V6.setCells a5 0 ua.toList):=M6.put HM.out hs5 ua.toList
       refine hK.out _ _ ⟨_,hfin⟩ (fun _=>?_)
       clear hK K
       refine wpAnyH_done (by kernel_rfl) ?_ _
       go_wp2_with fail
       go_meet
       case rel=>exact ⟨_,rfl,hfin,setCells_whole hz6 (by rw [u17]; rfl),hne⟩
    ·intro K hK
     simp only [gsb]
     have hz7:=heap_alloc_new V1 (.cells #[.bool false,.int .i64 0,.int .i64 0,.int .i64 0,.int .i64 0,.int .i64 0,.int .i64 0,.int .i64 0,.int .i64 0,.int .i64 0,.int .i64 0,.int .i64 0,.int .i64 0,.int .i64 0,.int .i64 0,.int .i64 0,.int .i64 0] 203)
     have M7:=M1.call (below_alloc1 V1 (.cells #[.bool false,.int .i64 0,.int .i64 0,.int .i64 0,.int .i64 0,.int .i64 0,.int .i64 0,.int .i64 0,.int .i64 0,.int .i64 0,.int .i64 0,.int .i64 0,.int .i64 0,.int .i64 0,.int .i64 0,.int .i64 0,.int .i64 0] 203))
     have K7:=K1.trans (AKeep.of_below (below_alloc1 V1 (.cells #[.bool false,.int .i64 0,.int .i64 0,.int .i64 0,.int .i64 0,.int .i64 0,.int .i64 0,.int .i64 0,.int .i64 0,.int .i64 0,.int .i64 0,.int .i64 0,.int .i64 0,.int .i64 0,.int .i64 0,.int .i64 0,.int .i64 0] 203)) M1.a.le)
     have hs7:wc.heap.size≤V1.heap.size:=K1.below.size
     go_simp
     refine hK.out _ _ ⟨_,M7⟩ (fun hHeld=>?_)
     clear hK K
     generalize V1.alloc (.cells #[.bool false,.int .i64 0,.int .i64 0,.int .i64 0,.int .i64 0,.int .i64 0,.int .i64 0,.int .i64 0,.int .i64 0,.int .i64 0,.int .i64 0,.int .i64 0,.int .i64 0,.int .i64 0,.int .i64 0,.int .i64 0,.int .i64 0] 203)=V7 at *
     generalize V1.heap.size=a7 at *
     refine wpAnyH_ready (rs:=[5]) (by kernel_rfl) (by simp) ?_
     refine AllReadyH.cons (i:=5) (o:=_) (by rfl) ?_ AllReadyH.nil
     ·intro K hK
      simp only [gsb]
      go_simp
      refine (HSM.out _).mono ?_
      rintro r V8 ⟨rfl,b8⟩
      go_wp2_with fail
      have M8:=M7.call b8
      have K8:=K7.trans (AKeep.of_below b8 M7.a.le)
      have hz8:=(b8.block _ (heap_lt hz7)).trans hz7
      refine hK.out _ _ ⟨_,M8⟩ (fun hHeld=>?_)
      clear hK K b8
      refine wpAnyH_ready (rs:=[6]) (by kernel_rfl) (by simp) ?_
      refine AllReadyH.cons (i:=6) (o:=_) (by rfl) ?_ AllReadyH.nil
      ·intro K hK
       simp only [gsb]
       go_simp
       refine (HBK.out _ K8 M8).mono ?_
       rintro r V9 ⟨rfl,M9,b9⟩
       go_wp2_with fail
       have K9:=K8.trans b9
       have hz9:=b9.mine HM.out.a hs7 hz8
       refine hK.out _ _ ⟨_,M9⟩ (fun hHeld=>?_)
       clear hK K b9
       refine rd1 8 fun K hK=>?_
       simp only [gsb]
       rw [if_pos (by rfl)]
       refine wr_st _ _ rfl rfl rfl (there_of hz9) u17 u1o ?_
       have hlt:=HM.out.a.lt
       have hne:a7 ≠ C.gf∧a7 ≠ C.gs∧a7 ≠ C.m:=⟨by omega,by omega,by omega⟩
       have hfin:RpM w pa ca C π T kw (told π true F0 RR.1) (V9.setCells a7 0 ua.toList):=M9.put HM.out hs7 ua.toList
       refine hK.out _ _ ⟨_,hfin⟩ (fun _=>?_)
       clear hK K
       refine wpAnyH_done (by kernel_rfl) ?_ _
       go_wp2_with fail
       go_meet
       case rel=>exact ⟨_,rfl,hfin,setCells_whole hz9 (by rw [u17]; rfl),hne⟩
   ·intro K hK
    simp only [gsb,gsa,Array.toArray_toList]
    have hz10:=heap_alloc_new V0 (.cells #[.bool false,.int .i64 0,.int .i64 0,.int .i64 0,.int .i64 0,.int .i64 0,.int .i64 0,.int .i64 0,.int .i64 0,.int .i64 0,.int .i64 0,.int .i64 0,.int .i64 0,.int .i64 0,.int .i64 0,.int .i64 0,.int .i64 0] 203)
    have M10:=M0.call (below_alloc1 V0 (.cells #[.bool false,.int .i64 0,.int .i64 0,.int .i64 0,.int .i64 0,.int .i64 0,.int .i64 0,.int .i64 0,.int .i64 0,.int .i64 0,.int .i64 0,.int .i64 0,.int .i64 0,.int .i64 0,.int .i64 0,.int .i64 0,.int .i64 0] 203))
    have K10:=K0.trans (AKeep.of_below (below_alloc1 V0 (.cells #[.bool false,.int .i64 0,.int .i64 0,.int .i64 0,.int .i64 0,.int .i64 0,.int .i64 0,.int .i64 0,.int .i64 0,.int .i64 0,.int .i64 0,.int .i64 0,.int .i64 0,.int .i64 0,.int .i64 0,.int .i64 0,.int .i64 0] 203)) M0.a.le)
    have hs10:wc.heap.size≤V0.heap.size:=K0.below.size
    go_simp
    refine hK.out _ _ ⟨_,M10⟩ (fun hHeld=>?_)
    clear hK K
    generalize V0.alloc (.cells #[.bool false,.int .i64 0,.int .i64 0,.int .i64 0,.int .i64 0,.int .i64 0,.int .i64 0,.int .i64 0,.int .i64 0,.int .i64 0,.int .i64 0,.int .i64 0,.int .i64 0,.int .i64 0,.int .i64 0,.int .i64 0,.int .i64 0] 203)=V10 at *
    generalize V0.heap.size=a10 at *
    refine wpAnyH_ready (rs:=[4]) (by kernel_rfl) (by simp) ?_
    refine AllReadyH.cons (i:=4) (o:=_) (by rfl) ?_ AllReadyH.nil
    ·intro K hK
     simp only [gsb]
     go_simp
     refine (HNU.out _ M10).mono ?_
     rintro r V11 ⟨rfl,b11⟩
     go_wp2_with fail
     have M11:=M10.call b11
     have K11:=K10.trans (AKeep.of_below b11 M10.a.le)
     have hz11:=(b11.block _ (heap_lt hz10)).trans hz10
     refine hK.out _ _ ⟨_,M11⟩ (fun hHeld=>?_)
     clear hK K b11
     refine wpAnyH_ready (rs:=[5]) (by kernel_rfl) (by simp) ?_
     refine AllReadyH.cons (i:=5) (o:=_) (by rfl) ?_ AllReadyH.nil
     ·intro K hK
      simp only [gsb]
      go_simp
      refine (HSM.out _).mono ?_
      rintro r V12 ⟨rfl,b12⟩
      go_wp2_with fail
      have M12:=M11.call b12
      have K12:=K11.trans (AKeep.of_below b12 M11.a.le)
      have hz12:=(b12.block _ (heap_lt hz11)).trans hz11
      refine hK.out _ _ ⟨_,M12⟩ (fun hHeld=>?_)
      clear hK K b12
      refine wpAnyH_ready (rs:=[6]) (by kernel_rfl) (by simp) ?_
      refine AllReadyH.cons (i:=6) (o:=_) (by rfl) ?_ AllReadyH.nil
      ·intro K hK
       simp only [gsb]
       go_simp
       refine (HBK.out _ K12 M12).mono ?_
       rintro r V13 ⟨rfl,M13,b13⟩
       go_wp2_with fail
       have K13:=K12.trans b13
       have hz13:=b13.mine HM.out.a hs10 hz12
       refine hK.out _ _ ⟨_,M13⟩ (fun hHeld=>?_)
       clear hK K b13
       refine rd1 8 fun K hK=>?_
       simp only [gsb]
       rw [if_pos (by rfl)]
       refine wr_st _ _ rfl rfl rfl (there_of hz13) u17 u1o ?_
       have hlt:=HM.out.a.lt
       have hne:a10 ≠ C.gf∧a10 ≠ C.gs∧a10 ≠ C.m:=⟨by omega,by omega,by omega⟩
       have hfin:RpM w pa ca C π T kw (told π true F0 RR.1) (V13.setCells a10 0 ua.toList):=M13.put HM.out hs10 ua.toList
       refine hK.out _ _ ⟨_,hfin⟩ (fun _=>?_)
       clear hK K
       refine wpAnyH_done (by kernel_rfl) ?_ _
       go_wp2_with fail
       go_meet
       case rel=>exact ⟨_,rfl,hfin,setCells_whole hz13 (by rw [u17]; rfl),hne⟩
  case rest =>
   obtain ⟨k8,rfl,hr⟩:=hcut
   have M0:RpM w pa ca C π T kw (told π true F0 RR.1) wc.drew:=hr.out.1.call (Below.refl _ _).drew
   have Z0:wc.drew.heap[k8]?=some (.cells ua 203):=hr.out.2.1
   have hne:=hr.out.2.2
   have HM0:Hid (RpM w pa ca C π T kw (told π true F0 RR.1) wc.drew):=M0
   go_wp2_with fail
   refine wp_region_held_drew (S:=fun w':World=>(∃ F',RpM w pa ca C π T kw F' w')∧w'.heap[k8]?=some (.cells ua 203)) (by kernel_rfl) ⟨⟨_,M0⟩,Z0⟩ (fun hHeld=>?_)
   clear M0 Z0 HBK HNU HSM
   refine tky 0 rfl (yieldsIf_load_mid (by rfl) _ _ rfl _ _ rfl (wa).toList _ (fun w' h=>(h.1.elim fun F h=>range_of (HMO.out F _ h))) Tryz.underlying200 rfl (by rw [infoWk,Array.length_toList,hws])) hHeld ?_
   simp only [Act.put]
   refine tky 4 rfl (yieldsIf_load_mid (by rfl) _ _ rfl _ _ rfl (ua).toList _ (fun w' h=>range_of h.2) Tryz.underlying203 rfl (by rw [infoSt,Array.length_toList,u17])) hHeld ?_
   simp only [Act.put]
   refine tk 1 (.pointer (some ⟨w.heap.size,1,none⟩)) rfl (fun w' h=>by go_simp) hHeld ?_
   simp only [Act.put]
   refine tk 2 (.int .i64 (p:Nat)) rfl (fun w' h=>by obtain ⟨⟨_,h⟩,_⟩:=h; have d:=cell_of h.s.p 1 hp1; go_simp) hHeld ?_
   simp only [Act.put]
   refine rd1 3 fun K hK=>?_
   simp only [gsb,gsa,Array.toArray_toList]
   go_simp
   refine (anwhere_calls _ _).mono ?_
   rintro r w1 ⟨rfl,rfl⟩
   go_wp2_with fail
   refine hK.out _ _ hHeld (fun hHeld=>?_)
   clear hK K
   refine rd1 5 fun K hK=>?_
   simp only [gsb]
   go_simp
   refine (HPT.out _ HM0.out).mono ?_
   rintro r w2 ⟨rfl,M2,b2⟩
   go_wp2_with fail
   refine hK.out _ _ ⟨⟨_,M2⟩,(b2.others _ (heap_lt hHeld.2) hne.1 hne.2.1 hne.2.2).trans hHeld.2⟩ (fun _=>?_)
   clear hK K hHeld b2
   refine wpAnyH_done (by kernel_rfl) ?_ _
   have HM2:Hid (RpM w pa ca C π T kw F2 w2):=M2
   clear M2 hr hne HM0 HPT
   go_wp2_with fail
   have M3:RpM w pa ca C π T kw F2 w2.drew:=HM2.out.call (Below.refl _ _).drew
   have eC:=HCC.out
   have hfb:∀ W,RpM w pa ca C π T kw F2 W→W.heap[fb]?=some (.cells #[.slice (some ⟨gf,0,none⟩) n n,.slice (some ⟨gs,0,none⟩) q q] 198):=fun W hW=>by
    have:=hW.a.hfb
    rw [← eC] at this
    rw [HL3.out,HL4.out] at this
    exact this
   have HFB:Hid (∀ W,_→_):=hfb
   have hgs:∀ W,RpM w pa ca C π T kw F2 W→W.heap[gs]?=some (.cells (siteCells F2.2).toArray 3):=fun W hW=>by
    have:=hW.a.hgs
    rw [← eC] at this
    exact this
   have HGS:Hid (∀ W,_→_):=hgs
   clear hfb hgs eC
   have HM3:Hid (RpM w pa ca C π T kw F2 w2.drew):=M3
   have hz3:w2.drew.heap[w.heap.size + 1 + 1]?=some (.cells #[.slice none 0 0,.slice none 0 0] 64):=M3.s.z
   refine wp_region_held_drew (S:=fun w':World=>(w'.heap[kw]?=some (.cells wa 200)∧w'.heap[fb]?=some (.cells #[.slice (some ⟨gf,0,none⟩) n n,.slice (some ⟨gs,0,none⟩) q q] 198))∧∃ c:Array Value,c.size=2∧w'.heap[w.heap.size + 1 + 1]?=some (.cells c 64)) (by kernel_rfl) ⟨⟨HMO.out _ _ M3,HFB.out _ M3⟩,_,rfl,hz3⟩ (fun hHeld=>?_)
   clear M3
   refine tk 0 (.iface 128 dv) rfl (fun w' h=>by go_simp) hHeld ?_
   simp only [Act.put]
   refine tk 1 (.pointer (some ⟨kw,7,none⟩)) rfl (fun w' h=>by go_simp) hHeld ?_
   simp only [Act.put]
   refine tk 2 (.pointer (some ⟨fb,0,none⟩)) rfl (fun w' h=>by have d:=cell_of h.1.1 7 hw7; go_simp) hHeld ?_
   simp only [Act.put]
   refine tk 3 (.pointer (some ⟨fb,0,none⟩)) rfl (fun w' h=>by go_simp) hHeld ?_
   simp only [Act.put]
   refine tk 4 (.pointer (some ⟨fb,0,none⟩)) rfl (fun w' h=>by go_simp) hHeld ?_
   simp only [Act.put]
   refine tk 5 (.slice (some ⟨gf,0,none⟩) n n) rfl (fun w' h=>by have d:=cell_of h.1.2 0 (v:=.slice (some ⟨gf,0,none⟩) n n) rfl; go_simp) hHeld ?_
   simp only [Act.put]
   refine tk 7 (.pointer (some ⟨kw,7,none⟩)) rfl (fun w' h=>by go_simp) hHeld ?_
   simp only [Act.put]
   refine tk 8 (.pointer (some ⟨fb,0,none⟩)) rfl (fun w' h=>by have d:=cell_of h.1.1 7 hw7; go_simp) hHeld ?_
   simp only [Act.put]
   refine tk 9 (.pointer (some ⟨fb,0,none⟩)) rfl (fun w' h=>by go_simp) hHeld ?_
   simp only [Act.put]
   refine tk 10 (.pointer (some ⟨fb,1,none⟩)) rfl (fun w' h=>by go_simp) hHeld ?_
   simp only [Act.put]
   refine tk 11 (.slice (some ⟨gs,0,none⟩) q q) rfl (fun w' h=>by have d:=cell_of h.1.2 1 (v:=.slice (some ⟨gs,0,none⟩) q q) rfl; go_simp) hHeld ?_
   simp only [Act.put]
   refine rd1 6 fun K hK=>?_
   simp only [gsb,gsa]
   go_simp
   refine (HFS.out _ HM3.out).mono ?_
   rintro r w4 ⟨rfl,hg4,b4⟩
   go_wp2_with fail
   have hz4:=(b4.block _ (heap_lt hz3)).trans hz3
   have hS4:(w4.heap[kw]?=some (.cells wa 200)∧w4.heap[fb]?=some (.cells #[.slice (some ⟨gf,0,none⟩) n n,.slice (some ⟨gs,0,none⟩) q q] 198)):=⟨(b4.block _ (heap_lt hHeld.1.1)).trans hHeld.1.1,(b4.block _ (heap_lt hHeld.1.2)).trans hHeld.1.2⟩
   refine hK.out _ _ ⟨hS4,_,rfl,hz4⟩ (fun hHeld=>?_)
   clear hK K
   refine tky 12 (v:=.agg #[.slice (some ⟨w2.drew.heap.size,0,none⟩) n n,.slice (some ⟨gs,0,none⟩) q q]) rfl (yields_bld (by rfl) rfl (vals:=#[(0,.slice (some ⟨w2.drew.heap.size,0,none⟩) n n),(1,.slice (some ⟨gs,0,none⟩) q q)]) (by kernel_rfl) (build_rp _ _ ⟨_,_,_,rfl⟩ ⟨_,_,_,rfl⟩)) hHeld ?_
   simp only [Act.put]
   have hl2:=HM3.out.s.lt
   have hgs4:=(b4.block _ (heap_lt (HGS.out _ HM3.out))).trans (HGS.out _ HM3.out)
   have hll:=HL.out
   have hkf:kw ≠ w.heap.size + 1 + 1:=by omega
   have hfz:fb ≠ w.heap.size + 1 + 1:=fun e=>by
    have h1:=hS4.2
    rw [e,hz4] at h1
    injection h1 with h1
    injection h1 with _ h1 _
    exact absurd h1 (by decide)
   have hr0:=setCells_whole hz4 (d:=#[.slice (some ⟨w2.drew.heap.size,0,none⟩) n n,.slice (some ⟨gs,0,none⟩) q q]) rfl
   refine rd1 13 fun K hK=>?_
   simp only [gsb,gsa]
   rw [if_pos (by rfl)]
   refine wp_store_mid _ _ _ rfl _ _ #[.slice (some ⟨w2.drew.heap.size,0,none⟩) n n,.slice (some ⟨gs,0,none⟩) q q] rfl rfl (show w4.there (w.heap.size + 1 + 1) 0 2 from there_of hz4) (by rw [infoRp]; rfl) (by simp [Value.oneCell']) ?_
   refine hK.out _ _ ⟨⟨(setCells_other _ _ _ _ hkf).trans hS4.1,(setCells_other _ _ _ _ hfz).trans hS4.2⟩,_,rfl,hr0⟩ (fun _=>?_)
   clear hK K
   refine wpAnyH_done (by kernel_rfl) ?_ _
   have hBf:Below w.heap.size w (w4.setCells (w.heap.size + 1 + 1) 0 (#[Value.slice (some ⟨w2.drew.heap.size,0,none⟩) n n,.slice (some ⟨gs,0,none⟩) q q]:Array Value).toList):=setCells_below (b:=w.heap.size + 1 + 1) (by omega) _ _ _ _ (HM3.out.s.b.trans (b4.mono HM3.out.s.b.size))
   have HR0:Hid (_=_):=hr0
   have HBF:Hid (Below w.heap.size w _):=hBf
   have HG4:Hid (_=_):=(setCells_other (b:=w.heap.size + 1 + 1) (#[Value.slice (some ⟨w2.drew.heap.size,0,none⟩) n n,.slice (some ⟨gs,0,none⟩) q q]:Array Value).toList 0 w4 w2.drew.heap.size (by omega)).trans hg4
   have HS4:Hid (_=_):=(setCells_other (b:=w.heap.size + 1 + 1) (#[Value.slice (some ⟨w2.drew.heap.size,0,none⟩) n n,.slice (some ⟨gs,0,none⟩) q q]:Array Value).toList 0 w4 gs (by omega)).trans hgs4
   have hlg:w.heap.size≤w2.drew.heap.size:=HM3.out.s.b.size
   have hlh:w.heap.size≤gs:=by omega
   clear hr0 hBf hg4 hgs4 b4 hHeld hS4 hz4 hz3
   go_wp2_with fail
   refine bodyPost_ret (results_rp Tryz.results50 _ _ rfl HR0.out rfl) rfl ⟨w2.drew.heap.size,gs,?_,?_,?_,hlg,hlh,HBF.out⟩
   ·rw [HNP.out]
   ·rw [HREP.out]; exact HG4.out
   ·rw [HREP.out]; exact HS4.out
end WC
end Go.Proofs.YtiopfihjmkfdmaaGreatDoor
