import Derived.Test.YtiopfihjmkfdmaaGreatDoorX36
import Derived.Test.YtiopfihjmkfdmaaGreatDoorX39
namespace Go.Proofs.YtiopfihjmkfdmaaGreatDoor
namespace WC
open Go.RowKit
set_option maxRecDepth 100000
set_option maxHeartbeats 4000000
theorem wp_stW {ops:Array Oper} {rest:List Oper} {op:Oper} {a:Act} {w:World} {Q:Exit→Act→World→Prop} (hgd:op.guard=none) (x y:Operand) (ho:op.op=.store 200 x y) {b:Nat} {c d:Array Value} (hx:a.eval x=.pointer (some ⟨b,0,none⟩)) (hy:a.eval y=.agg d) (h:w.heap[b]?=some (.cells c 200)) (hc:c.size=8) (hd:d.size=8) (h1:d.all (·.oneCell')=true)
  (k:wpList Tryz.prog ops Q rest (a.put op.dst undef) (w.setCells b 0 d.toList)):wpList Tryz.prog ops Q (op :: rest) a w :=
 wpList_plain hgd fun _ hK=>wp_store_mid 200 x y ho b 0 d hx hy (by rw [hd,← hc]; exact there_of h) (by rw [infoWk,hd]) h1 (hK _ _ k)
theorem wk_one (C:Cx) (b:Bool):(wk C b).all (·.oneCell')=true:=by unfold wk wkA; simp [Value.oneCell']
theorem one_new (w:World) (u:Array Value) (h:u.size=17) :
  (w.alloc (.cells #[.bool false,.int .i64 0,.int .i64 0,.int .i64 0,.int .i64 0,.int .i64 0,.int .i64 0,.int .i64 0,.int .i64 0,.int .i64 0,.int .i64 0,.int .i64 0,.int .i64 0,.int .i64 0,.int .i64 0,.int .i64 0,.int .i64 0] 203)).heap[w.heap.size]?=some (.cells #[.bool false,.int .i64 0,.int .i64 0,.int .i64 0,.int .i64 0,.int .i64 0,.int .i64 0,.int .i64 0,.int .i64 0,.int .i64 0,.int .i64 0,.int .i64 0,.int .i64 0,.int .i64 0,.int .i64 0,.int .i64 0,.int .i64 0] 203) ∧
  ((w.alloc (.cells #[.bool false,.int .i64 0,.int .i64 0,.int .i64 0,.int .i64 0,.int .i64 0,.int .i64 0,.int .i64 0,.int .i64 0,.int .i64 0,.int .i64 0,.int .i64 0,.int .i64 0,.int .i64 0,.int .i64 0,.int .i64 0,.int .i64 0] 203)).setCells w.heap.size 0 u.toList).heap[w.heap.size]?=some (.cells u 203) ∧
  Below w.heap.size w ((w.alloc (.cells #[.bool false,.int .i64 0,.int .i64 0,.int .i64 0,.int .i64 0,.int .i64 0,.int .i64 0,.int .i64 0,.int .i64 0,.int .i64 0,.int .i64 0,.int .i64 0,.int .i64 0,.int .i64 0,.int .i64 0,.int .i64 0,.int .i64 0] 203)).setCells w.heap.size 0 u.toList):=by
 have a1:=heap_alloc_new w (.cells #[.bool false,.int .i64 0,.int .i64 0,.int .i64 0,.int .i64 0,.int .i64 0,.int .i64 0,.int .i64 0,.int .i64 0,.int .i64 0,.int .i64 0,.int .i64 0,.int .i64 0,.int .i64 0,.int .i64 0,.int .i64 0,.int .i64 0] 203)
 exact ⟨a1,setCells_whole a1 (by rw [h]; rfl),setCells_below (Nat.le_refl _) _ _ _ _ (below_alloc1 w _)⟩
abbrev zeroWk:Array Value:=#[.nilIface,.int .i64 0,.int .i64 0,.int .i64 0,.int .i64 0,.bool false,.map none,.pointer none]
theorem one_newW (w:World) (u:Array Value) (h:u.size=8) :
  (w.alloc (.cells zeroWk 200)).heap[w.heap.size]?=some (.cells zeroWk 200) ∧
  ((w.alloc (.cells zeroWk 200)).setCells w.heap.size 0 u.toList).heap[w.heap.size]?=some (.cells u 200) ∧
  Below w.heap.size w ((w.alloc (.cells zeroWk 200)).setCells w.heap.size 0 u.toList):=by
 have a1:=heap_alloc_new w (.cells zeroWk 200)
 exact ⟨a1,setCells_whole a1 (by rw [h]; rfl),setCells_below (Nat.le_refl _) _ _ _ _ (below_alloc1 w _)⟩
def BlkAll (C:Cx) (π:Par) (T:Tab) (b:Bool) (w:World) (v:Value) (body:ST→List TelT × ST):Prop :=
 ∀ F W s,AKeep C w W→AnAt C π T F W→Sp.Wf (Kr π) s→Rng b F (body s).1→Calls Tryz.prog 78 #[.agg (wk C b),v,.agg (stC s)] W (Post C π T F b W (body s).1 (body s).2)
structure AlIn (C:Cx) (π:Par) (T:Tab) (F:Fd) (w:World) (wa ic sa wq:Array Value) (kq:Nat) (W:World):Prop where
 a:AnAt C π T F W
 k:AKeep C w W
 c:CauAt wq ic wa sa kq (w.heap.size + 1) w.heap.size (w.heap.size + 1 + 1) W
 z:W.heap[w.heap.size + 1 + 1 + 1]?=some (.cells #[.bool false,.int .i64 0,.int .i64 0,.int .i64 0,.int .i64 0,.int .i64 0,.int .i64 0,.int .i64 0,.int .i64 0,.int .i64 0,.int .i64 0,.int .i64 0,.int .i64 0,.int .i64 0,.int .i64 0,.int .i64 0,.int .i64 0] 203)
theorem AlIn.call {C:Cx} {π:Par} {T:Tab} {F:Fd} {w:World} {wa ic sa wq:Array Value} {kq:Nat} {W W':World} (h:AlIn C π T F w wa ic sa wq kq W) (k:Below W.heap.size W W'):AlIn C π T F w wa ic sa wq kq W' :=
 ⟨h.a.call k,h.k.trans (AKeep.of_below k h.a.le),h.c.call k,(k.block _ (heap_lt h.z)).trans h.z⟩
theorem AlIn.keep {C:Cx} {π:Par} {T:Tab} {F F0:Fd} {w:World} {wa ic sa wq:Array Value} {kq:Nat} {W W':World} (h0:AnAt C π T F0 w) (hq:w.heap.size≤kq) (h:AlIn C π T F w wa ic sa wq kq W) (ha:AnAt C π T F W') (hk:AKeep C W W'):AlIn C π T F w wa ic sa wq kq W' :=
 ⟨ha,h.k.trans hk,h.c.keep h0 ⟨hq,by omega,Nat.le_refl _,by omega⟩ hk,hk.mine h0 (by omega) h.z⟩
theorem AlIn.put {C:Cx} {π:Par} {T:Tab} {F F0:Fd} {w:World} {wa ic sa wq:Array Value} {kq:Nat} {W:World} (h0:AnAt C π T F0 w) (h:AlIn C π T F w wa ic sa wq kq W) {p:Nat} (hq:w.heap.size + 1 + 1 + 1<kq) (hp:kq<p) (l:List Value):AlIn C π T F w wa ic sa wq kq (W.setCells p 0 l):=by
 have hb:Below w.heap.size W (W.setCells p 0 l):=setCells_below (b:=p) (by omega) l 0 W _ (Below.refl _ _)
 exact ⟨h0.upon h.a hb,AKeep.upon h0 h.k hb,h.c.put (by omega) l,(setCells_other _ _ _ _ (by omega)).trans h.z⟩
theorem all_calls (p:Int) (k:Nat) (tl:TypeId) (ul:Value) (tr:TypeId) (ur:Value) (av:Option Addr) (nv cv:Nat) (x y:Sp.Sm) (ct:Sp.Ct) (body:ST→List TelT × ST) (C:Cx) (π:Par) (T:Tab) (F:Fd) (b:Bool) (w:World) (s:ST) (h:AnAt C π T F w) (hs:Sp.Wf (Kr π) s)
  (hcon:CondAn (.iface tl ul) (.iface tr ur) k x y ct) (hcw:Sp.CondWf (Kr π) (Sp.anC (Dm π) k x y ct)) (hbw:Sp.BodyWf (Kr π) body) (hbn:Sp.BodyNo (D:=Dm π) body) (hblk:BlkAll C π T false w (.slice av nv cv) body) (hnar:C.narrow≤1000) :
  Calls Tryz.prog 223 #[.agg (wk C b),.agg (whA p k tl ul tr ur av nv cv),.agg (stC s)] w fun e w'=>e=.returned (.agg (stC (Sp.allV (Dm π) C.pol (Sp.anC (Dm π) k x y ct) body s)))∧AnAt C π T F w'∧AKeep C w w':=by
 obtain ⟨next,hnext⟩:∃ next:ST→ST,next=fun i=>Sp.nxtV (Dm π) (Sp.anC (Dm π) k x y ct) body s i:=⟨_,rfl⟩
 have hnw:∀ i,Sp.Wf (Kr π) i→Sp.Wf (Kr π) (next i):=fun i hi=>by rw [hnext]; exact Sp.nxt_wf hcw hbw hs hi
 have hn0:s=none→next none=none:=fun e=>by rw [hnext]; exact Sp.nxt_none (D:=Dm π) (cond:=Sp.anC (Dm π) k x y ct) (show Sp.CondNo (Sp.anC (Dm π) k x y ct) from rfl) hbn e
 have HNX:Hid (∀ W kq i,w.heap.size≤kq→CauAt (wk C false) (whA p k tl ul tr ur av nv cv) (wk C b) (stC s) kq (w.heap.size + 1) w.heap.size (w.heap.size + 1 + 1) W→AKeep C w W→AnAt C π T F W→Sp.Wf (Kr π) i →
   Calls Tryz.prog 242 #[.agg (stC i),.pointer (some ⟨kq,0,none⟩),.pointer (some ⟨w.heap.size + 1,0,none⟩),.pointer (some ⟨w.heap.size,0,none⟩),.pointer (some ⟨w.heap.size + 1 + 1,0,none⟩)] W fun e w'=>e=.returned (.agg (stC (next i)))∧AnAt C π T F w'∧AKeep C W w'):=fun W kq i hq hca hk ha hi=>by
  have hci:=hcw i hi
  refine next_calls p k tl ul tr ur av nv cv C π T F F b w W kq _ _ _ s i h ⟨hq,by omega,Nat.le_refl _,by omega⟩ ha hca (Sp.anC (Dm π) k x y ct i).1 _ _ (Sp.anC (Dm π) k x y ct i).2.2 _ _ (fun W' hW'=>hcon C π T F false W' i hW' hi (rng_false _ _)) (fun W' hk' ha'=>hblk F W' _ (hk.trans hk') ha' hci.1 (rng_false _ _)) hs (hbw _ hci.1) ?_
  rw [hnext]
  rfl
 have N0:Hid (Sp.NrTo (Kr π) (Sp.anC (Dm π) k x y ct) body s (Sp.allV (Dm π) C.pol (Sp.anC (Dm π) k x y ct) body s) C.narrow (Sp.fixF (Dm π) next C.delay (Dm π).fuel 1 s)):=by
  rw [hnext]
  exact Sp.NrTo.start (P:=C.pol) hcw hbw rfl hbn hs
 have NON:Hid (∀ n sj,Sp.NrTo (Kr π) (Sp.anC (Dm π) k x y ct) body s (Sp.allV (Dm π) C.pol (Sp.anC (Dm π) k x y ct) body s) (n + 1) sj→Sp.NrTo (Kr π) (Sp.anC (Dm π) k x y ct) body s (Sp.allV (Dm π) C.pol (Sp.anC (Dm π) k x y ct) body s) n (Sp.eachV (Dm π) (Dm π).narrow sj (next sj))∧(sj=none∨∃ e e',sj=some e∧next sj=some e'∧(∀ k,Wv (e k))∧(∀ k,Wv (e' k)))):=fun n sj h=>by
  rw [hnext]
  exact Sp.NrTo.on hcw hbw hs h
 obtain ⟨U,hU⟩:∃ U,Sp.allV (Dm π) C.pol (Sp.anC (Dm π) k x y ct) body s=U:=⟨_,rfl⟩
 rw [hU] at N0 NON ⊢
 have HWD:Hid (∀ W kq,AnAt C π T F W→w.heap.size≤kq→CauAt (wk C false) (whA p k tl ul tr ur av nv cv) (wk C b) (stC s) kq (w.heap.size + 1) w.heap.size (w.heap.size + 1 + 1) W→AKeep C w W→Calls _ _ _ W _):=fun W kq hW hq hca hk =>
  widened_calls C π T F b W s hs hW (.pointer (some ⟨kq,0,none⟩)) (.pointer (some ⟨w.heap.size + 1,0,none⟩)) (.pointer (some ⟨w.heap.size,0,none⟩)) (.pointer (some ⟨w.heap.size + 1 + 1,0,none⟩)) next hnw hn0 (fun W' i hk' ha' hi=>HNX.out W' kq i hq (hca.keep h ⟨hq,by omega,Nat.le_refl _,by omega⟩ hk') (hk.trans hk') ha' hi)
 have HQU:Hid (∀ W,Calls _ _ _ W _):=fun W=>quiet_calls C b W
 have hws:=wk_size C b
 have hwq:=wk_size C false
 have hw0:=wk_zero C b
 have hw3:(wk C b)[3]?=some (.int .i64 (C.narrow:Nat)):=rfl
 have hwo:=wk_one C false
 have s17:=stC_size s
 generalize wk C false=wq at *
 generalize wk C b=wa at *
 generalize stC s=sa at *
 obtain ⟨ic,hic⟩:∃ ic,ic=whA p k tl ul tr ur av nv cv:=⟨_,rfl⟩
 rw [← hic] at HNX HWD ⊢
 obtain ⟨k0,k1,k2,k3,kb⟩:=laid4b (w:=w) (o1:=.cells wa 200) (o2:=.cells ic 293) (o3:=.cells sa 203) (o4:=.cells #[.bool false,.int .i64 0,.int .i64 0,.int .i64 0,.int .i64 0,.int .i64 0,.int .i64 0,.int .i64 0,.int .i64 0,.int .i64 0,.int .i64 0,.int .i64 0,.int .i64 0,.int .i64 0,.int .i64 0,.int .i64 0,.int .i64 0] 203) (Below.refl _ _)
 have K0:Hid (_=_):=k0
 have K1:Hid (_=_):=k1
 have K2:Hid (_=_):=k2
 have K3:Hid (_=_):=k3
 have HB:Hid (Below w.heap.size w _):=kb
 have HA:Hid (AnAt C π T F w):=h
 clear h hs hcon hcw hbw hbn hblk hnext hnw hn0 hU k0 k1 k2 k3 kb hic
 go_enter Tryz.func223,Tryz.ntmps223
 go_wp2_with (first
  | (refine wp_ldW rfl _ rfl rfl K0.out hws ?_))
 refine (HQU.out _).mono ?_
 rintro r w1 ⟨rfl,b1⟩
 obtain ⟨t1,t2,tb⟩:=one_newW w1 wq hwq
 have hsz:w.heap.size + 1 + 1 + 1<w1.heap.size:=Nat.lt_of_lt_of_le (heap_lt K3.out) b1.size
 have HT1:Hid (_=_):=t1
 have bb:=fun k (hk:k<w1.heap.size)=>tb.block k hk
 have bw:Below w.heap.size w ((w1.alloc (.cells zeroWk 200)).setCells w1.heap.size 0 wq.toList):=(HB.out.trans (b1.mono HB.out.size)).trans (tb.mono (by omega))
 have H2:Hid (AlIn C π T F w wa ic sa wq w1.heap.size ((w1.alloc (.cells zeroWk 200)).setCells w1.heap.size 0 wq.toList)) :=
  ⟨HA.out.call bw,AKeep.of_below bw HA.out.le,⟨t2,(tb.block _ (by omega)).trans ((b1.block _ (heap_lt K1.out)).trans K1.out),(tb.block _ (by omega)).trans ((b1.block _ (heap_lt K0.out)).trans K0.out),(tb.block _ (by omega)).trans ((b1.block _ (heap_lt K2.out)).trans K2.out)⟩,(tb.block _ (by omega)).trans ((b1.block _ (heap_lt K3.out)).trans K3.out)⟩
 have HO2:Hid (_=_):=H2.out.c.o
 have HS2:Hid (_=_):=H2.out.c.s
 clear t1 t2 tb bb bw b1
 go_wp2_with (first
  | (refine wp_stW rfl _ _ rfl rfl rfl (by exact HT1.out) rfl hwq hwo ?_)
  | (refine wp_ldW rfl _ rfl rfl (by exact HO2.out) hws ?_)
  | (refine wp_ld rfl _ rfl rfl (by exact HS2.out) s17 ?_))
 generalize (w1.alloc (.cells zeroWk 200)).setCells w1.heap.size 0 wq.toList=w2 at *
 refine (HWD.out w2 w1.heap.size H2.out.a (by omega) H2.out.c H2.out.k).mono ?_
 obtain ⟨s0,hs0⟩:∃ s0,Sp.fixF (Dm π) next C.delay (Dm π).fuel 1 s=s0:=⟨_,rfl⟩
 rw [hs0] at N0 ⊢
 obtain ⟨x0,hx0⟩:∃ x0,x0=stC s0:=⟨_,rfl⟩
 have HX0:Hid (x0=_):=hx0
 have x17:x0.size=17:=by rw [hx0]; exact stC_size s0
 have x1:x0.all (·.oneCell')=true:=by rw [hx0]; exact stC_one s0
 rw [← hx0]
 rintro r w3 ⟨rfl,a3,b3⟩
 obtain ⟨t1,t2,tb⟩:=one_new w3 x0 x17
 have H3:Hid (AlIn C π T F w wa ic sa wq w1.heap.size w3):=H2.out.keep HA.out (by omega) a3 b3
 have hk3:w1.heap.size<w3.heap.size:=heap_lt H3.out.c.q
 have H4:Hid (AlIn C π T F w wa ic sa wq w1.heap.size ((w3.alloc (.cells #[.bool false,.int .i64 0,.int .i64 0,.int .i64 0,.int .i64 0,.int .i64 0,.int .i64 0,.int .i64 0,.int .i64 0,.int .i64 0,.int .i64 0,.int .i64 0,.int .i64 0,.int .i64 0,.int .i64 0,.int .i64 0,.int .i64 0] 203)).setCells w3.heap.size 0 x0.toList)∧((w3.alloc (.cells #[.bool false,.int .i64 0,.int .i64 0,.int .i64 0,.int .i64 0,.int .i64 0,.int .i64 0,.int .i64 0,.int .i64 0,.int .i64 0,.int .i64 0,.int .i64 0,.int .i64 0,.int .i64 0,.int .i64 0,.int .i64 0,.int .i64 0] 203)).setCells w3.heap.size 0 x0.toList).heap[w3.heap.size]?=some (.cells x0 203)):=⟨H3.out.call tb,t2⟩
 have HT2:Hid (_=_):=t1
 have c3:=cell_of H4.out.1.c.o 3 hw3
 clear t1 t2 tb a3 b3 hs0 hx0 H2 H3 HO2 HS2 HT1 HWD HQU
 go_wp2_with (first
  | (refine wp_st rfl _ _ rfl rfl rfl (by exact HT2.out) rfl x17 x1 ?_))
 generalize (w3.alloc (.cells #[.bool false,.int .i64 0,.int .i64 0,.int .i64 0,.int .i64 0,.int .i64 0,.int .i64 0,.int .i64 0,.int .i64 0,.int .i64 0,.int .i64 0,.int .i64 0,.int .i64 0,.int .i64 0,.int .i64 0,.int .i64 0,.int .i64 0] 203)).setCells w3.heap.size 0 x0.toList=W4 at *
 generalize w1.heap.size=kq at *
 generalize w3.heap.size=ki at *
 clear c3
 go_loopw [20] (fun v20 wr=>∃ (j n:Nat) (sj:ST) (xj:Array Value),n + j=C.narrow∧v20=.int .i64 j∧Hid (AlIn C π T F w wa ic sa wq kq wr∧wr.heap[ki]?=some (.cells xj 203))∧Hid (Sp.NrTo (Kr π) (Sp.anC (Dm π) k x y ct) body s U n sj)∧Hid (xj=stC sj)) (fun v20 _=>C.narrow - (intOf v20).toNat)
 case atStart=>exact ⟨0,C.narrow,s0,x0,rfl,rfl,H4,N0,HX0⟩
 case round =>
  obtain ⟨j,n,sj,xj,hnj,rfl,hq,hto,hx⟩:=hrel
  clear H4 N0 HX0 HT2
  have x17:xj.size=17:=by rw [hx.out]; exact stC_size sj
  have x1:xj.all (·.oneCell')=true:=by rw [hx.out]; exact stC_one sj
  have HX:Hid (_=_):=hq.out.2
  have HZ:Hid (_=_):=hq.out.1.z
  cases n with
  | zero =>
   obtain rfl:j=C.narrow:=by omega
   have hE:Hid (sj=U):=hto.out.eq
   have hr0:Hid (_=_):=setCells_whole hq.out.1.z (d:=xj) (by rw [x17]; rfl)
   have HBf:Hid (Below w.heap.size wr _):=setCells_below (b:=w.heap.size + 1 + 1 + 1) (by omega) xj.toList 0 wr _ (Below.refl _ _)
   go_wp2_with (first
    | (refine wp_ld rfl _ rfl rfl HX.out x17 ?_)
    | (refine wp_st rfl _ _ rfl rfl rfl HZ.out rfl x17 x1 ?_))
   refine bodyPost_ret (results_st Tryz.results223 _ _ rfl hr0.out x17) rfl ?_
   rw [← hE.out,← hx.out]
   exact ⟨rfl,HA.out.upon hq.out.1.a HBf.out,AKeep.upon HA.out hq.out.1.k HBf.out⟩
  | succ n =>
   have hjl:((j:Nat):Int)<((C.narrow:Nat):Int):=by omega
   obtain ⟨hon,hcase⟩:=NON.out n sj hto.out
   obtain ⟨nx,hnx⟩:∃ nx,nx=stC (next sj):=⟨_,rfl⟩
   obtain ⟨va,hva⟩:∃ va,va=stC (Sp.eachV (Dm π) (Dm π).narrow sj (next sj)):=⟨_,rfl⟩
   have v17:va.size=17:=by rw [hva]; exact stC_size _
   have v1:va.all (·.oneCell')=true:=by rw [hva]; exact stC_one _
   have HN1:Hid (∀ W,AlIn C π T F w wa ic sa wq kq W→Calls Tryz.prog 242 #[.agg xj,.pointer (some ⟨kq,0,none⟩),.pointer (some ⟨w.heap.size + 1,0,none⟩),.pointer (some ⟨w.heap.size,0,none⟩),.pointer (some ⟨w.heap.size + 1 + 1,0,none⟩)] W fun e w'=>e=.returned (.agg nx)∧AlIn C π T F w wa ic sa wq kq w'∧AKeep C W w'):=fun W hW=>by
    have:=HNX.out W kq sj (by omega) hW.c hW.k hW.a hto.out.wf
    rw [← hx.out,← hnx] at this
    exact this.mono fun e w' q=>⟨q.1,hW.keep HA.out (by omega) q.2.1 q.2.2,q.2.2⟩
   have HW:Hid (∀ W,AlIn C π T F w wa ic sa wq kq W→Calls Tryz.prog 157 #[.agg xj,.agg nx,.func (Fn.method "Narrow") #[.iface 128 C.dv] #[]] W fun r w'=>r=.returned (.agg va)∧Below W.heap.size W w'):=fun W hW=>by
    rcases hcase with e1 | ⟨e,e',e1,e2,w1,w2⟩
    ·have h0:xj[0]?=some (.bool false):=by rw [hx.out,e1]; rfl
     have:=each_none (.func (Fn.method "Narrow") #[.iface 128 C.dv] #[]) xj nx W h0
     rw [hva,e1]
     exact this
    ·have:=narrow_calls C.dv e e' W hW.a.does w1 w2
     rw [hx.out,hnx,hva,e1,← e1,e2,e1]
     exact this
   have HON:Hid (Sp.NrTo _ _ _ _ _ _ _):=hon
   have HVA:Hid (va=_):=hva
   clear hon hcase hnx hva
   go_wp2_with fail
   have H1:Hid (AlIn C π T F w wa ic sa wq kq wr.drew):=hq.out.1.call (Below.refl _ _).drew
   have hd:wr.drew.heap[ki]?=some (.cells xj 203):=HX.out
   refine wp_region_held_drew (S:=fun w':World=>AlIn C π T F w wa ic sa wq kq w'∧∃ c:Array Value,c.size=17∧w'.heap[ki]?=some (.cells c 203)) (by kernel_rfl) ⟨H1.out,xj,x17,HX.out⟩ (fun hHeld=>?_)
   refine tk 1 (.func (.func 242) #[] #[.pointer (some ⟨kq,0,none⟩),.pointer (some ⟨w.heap.size + 1,0,none⟩),.pointer (some ⟨w.heap.size,0,none⟩),.pointer (some ⟨w.heap.size + 1 + 1,0,none⟩)]) rfl (fun w' h=>by go_simp) hHeld ?_
   simp only [Act.put]
   refine tk 4 (.pointer (some ⟨w.heap.size,0,none⟩)) rfl (fun w' h=>by go_simp) hHeld ?_
   simp only [Act.put]
   refine tk 5 (.iface 128 C.dv) rfl (fun w' h=>by have d0:=cell_of h.1.c.o 0 hw0; go_simp) hHeld ?_
   simp only [Act.put]
   refine tk 6 (.iface 128 C.dv) rfl (fun w' h=>by go_simp) hHeld ?_
   simp only [Act.put]
   refine tk 7 (.func (Fn.method "Narrow") #[.iface 128 C.dv] #[]) rfl (fun w' h=>by go_simp) hHeld ?_
   simp only [Act.put]
   refine wpAnyH_ready (rs:=[0,2]) (by kernel_rfl) (by simp) ?_
   refine AllReadyH.cons (i:=0) (o:=_) (by rfl) ?_ (AllReadyH.cons (i:=2) (o:=_) (by rfl) ?_ AllReadyH.nil)
   ·intro K hK
    simp only [gsb,gsa]
    rw [if_pos (by rfl)]
    refine rd_st _ rfl rfl (range_of (by exact hd)) x17 ?_
    simp only [Act.put]
    refine hK.out _ _ hHeld (fun hHeld=>?_)
    clear hK K
    refine rd1 2 fun K hK=>?_
    simp only [gsb,gsa]
    rw [if_pos (by rfl)]
    refine rd_st _ rfl rfl (range_of (by exact hd)) x17 ?_
    simp only [Act.put]
    refine hK.out _ _ hHeld (fun hHeld=>?_)
    clear hK K
    refine rd1 3 fun K hK=>?_
    simp only [gsb,gsa]
    go_simp
    refine (HN1.out _ hHeld.1).mono ?_
    rintro r w5 ⟨rfl,hh,b3⟩
    go_wp2_with fail
    have hw5:w5.heap[ki]?=some (.cells xj 203):=b3.mine HA.out (by omega) hd
    refine hK.out _ _ ⟨hh,xj,x17,hw5⟩ (fun hHeld=>?_)
    clear hK K b3 hh
    refine rd1 8 fun K hK=>?_
    simp only [gsb]
    go_simp
    refine (HW.out _ hHeld.1).mono ?_
    rintro r w6 ⟨rfl,b6⟩
    go_wp2_with fail
    have hz:w6.heap[ki]?=some (.cells xj 203):=(b6.block _ (heap_lt hw5)).trans hw5
    have hh:=hHeld.1.call b6
    refine hK.out _ _ ⟨hh,xj,x17,hz⟩ (fun _=>?_)
    clear hK K b6 hHeld
    have hz2:=setCells_whole hz (d:=va) (by rw [v17,x17])
    have hh2:=hh.put HA.out hsz hk3 va.toList
    have HQ:Hid (AlIn C π T F w wa ic sa wq kq (w6.setCells ki 0 va.toList)∧(w6.setCells ki 0 va.toList).heap[ki]?=some (.cells va 203)):=⟨hh2,hz2⟩
    refine wpAnyH_ready (rs:=[9]) (by kernel_rfl) (by simp) ?_
    refine AllReadyH.cons rfl (fun K hK=>?_) AllReadyH.nil
    rw [if_pos (by rfl)]
    refine wp_store_mid _ _ _ rfl _ _ va rfl rfl (by rw [v17,← x17]; exact there_of hz) (by rw [infoSt,v17]) v1 ?_
    refine hK.out _ _ ⟨hh2,va,v17,hz2⟩ (fun _=>?_)
    clear hK K hh hh2 hz hz2
    refine wpAnyH_done (by kernel_rfl) ?_ _
    go_wp2_with fail
    exact ⟨⟨j + 1,n,_,va,by omega,by go_num,HQ,HON,HVA⟩,by simp [intOf]; omega⟩
   ·intro K hK
    simp only [gsb,gsa]
    rw [if_pos (by rfl)]
    refine rd_st _ rfl rfl (range_of (by exact hd)) x17 ?_
    simp only [Act.put]
    refine hK.out _ _ hHeld (fun hHeld=>?_)
    clear hK K
    refine wpAnyH_ready (rs:=[0,3]) (by kernel_rfl) (by simp) ?_
    refine AllReadyH.cons (i:=0) (o:=_) (by rfl) ?_ (AllReadyH.cons (i:=3) (o:=_) (by rfl) ?_ AllReadyH.nil)
    ·intro K hK
     simp only [List.getElem_toArray,List.getElem_cons_zero,List.setIfInBounds_toArray,List.set_cons_succ,List.set_cons_zero]
     rw [if_pos (by rfl)]
     refine rd_st _ rfl rfl (range_of (by exact hd)) x17 ?_
     simp only [Act.put]
     refine hK.out _ _ hHeld (fun hHeld=>?_)
     clear hK K
     refine rd1 3 fun K hK=>?_
     simp only [gsb,gsa]
     go_simp
     refine (HN1.out _ hHeld.1).mono ?_
     rintro r w5 ⟨rfl,hh,b3⟩
     go_wp2_with fail
     have hw5:w5.heap[ki]?=some (.cells xj 203):=b3.mine HA.out (by omega) hd
     refine hK.out _ _ ⟨hh,xj,x17,hw5⟩ (fun hHeld=>?_)
     clear hK K b3 hh
     refine rd1 8 fun K hK=>?_
     simp only [gsb]
     go_simp
     refine (HW.out _ hHeld.1).mono ?_
     rintro r w6 ⟨rfl,b6⟩
     go_wp2_with fail
     have hz:w6.heap[ki]?=some (.cells xj 203):=(b6.block _ (heap_lt hw5)).trans hw5
     have hh:=hHeld.1.call b6
     refine hK.out _ _ ⟨hh,xj,x17,hz⟩ (fun _=>?_)
     clear hK K b6 hHeld
     have hz2:=setCells_whole hz (d:=va) (by rw [v17,x17])
     have hh2:=hh.put HA.out hsz hk3 va.toList
     have HQ:Hid (AlIn C π T F w wa ic sa wq kq (w6.setCells ki 0 va.toList)∧(w6.setCells ki 0 va.toList).heap[ki]?=some (.cells va 203)):=⟨hh2,hz2⟩
     refine wpAnyH_ready (rs:=[9]) (by kernel_rfl) (by simp) ?_
     refine AllReadyH.cons rfl (fun K hK=>?_) AllReadyH.nil
     rw [if_pos (by rfl)]
     refine wp_store_mid _ _ _ rfl _ _ va rfl rfl (by rw [v17,← x17]; exact there_of hz) (by rw [infoSt,v17]) v1 ?_
     refine hK.out _ _ ⟨hh2,va,v17,hz2⟩ (fun _=>?_)
     clear hK K hh hh2 hz hz2
     refine wpAnyH_done (by kernel_rfl) ?_ _
     go_wp2_with fail
     exact ⟨⟨j + 1,n,_,va,by omega,by go_num,HQ,HON,HVA⟩,by simp [intOf]; omega⟩
    ·intro K hK
     simp only [gsb,gsa]
     go_simp
     refine (HN1.out _ hHeld.1).mono ?_
     rintro r w5 ⟨rfl,hh,b3⟩
     go_wp2_with fail
     have hw5:w5.heap[ki]?=some (.cells xj 203):=b3.mine HA.out (by omega) hd
     refine hK.out _ _ ⟨hh,xj,x17,hw5⟩ (fun hHeld=>?_)
     clear hK K b3 hh
     refine rd1 0 fun K hK=>?_
     simp only [List.getElem_toArray,List.getElem_cons_zero]
     rw [if_pos (by rfl)]
     refine rd_st _ rfl rfl (range_of (by exact hw5)) x17 ?_
     simp only [Act.put]
     refine hK.out _ _ hHeld (fun hHeld=>?_)
     clear hK K
     refine rd1 8 fun K hK=>?_
     simp only [gsb]
     go_simp
     refine (HW.out _ hHeld.1).mono ?_
     rintro r w6 ⟨rfl,b6⟩
     go_wp2_with fail
     have hz:w6.heap[ki]?=some (.cells xj 203):=(b6.block _ (heap_lt hw5)).trans hw5
     have hh:=hHeld.1.call b6
     refine hK.out _ _ ⟨hh,xj,x17,hz⟩ (fun _=>?_)
     clear hK K b6 hHeld
     have hz2:=setCells_whole hz (d:=va) (by rw [v17,x17])
     have hh2:=hh.put HA.out hsz hk3 va.toList
     have HQ:Hid (AlIn C π T F w wa ic sa wq kq (w6.setCells ki 0 va.toList)∧(w6.setCells ki 0 va.toList).heap[ki]?=some (.cells va 203)):=⟨hh2,hz2⟩
     refine wpAnyH_ready (rs:=[9]) (by kernel_rfl) (by simp) ?_
     refine AllReadyH.cons rfl (fun K hK=>?_) AllReadyH.nil
     rw [if_pos (by rfl)]
     refine wp_store_mid _ _ _ rfl _ _ va rfl rfl (by rw [v17,← x17]; exact there_of hz) (by rw [infoSt,v17]) v1 ?_
     refine hK.out _ _ ⟨hh2,va,v17,hz2⟩ (fun _=>?_)
     clear hK K hh hh2 hz hz2
     refine wpAnyH_done (by kernel_rfl) ?_ _
     go_wp2_with fail
     exact ⟨⟨j + 1,n,_,va,by omega,by go_num,HQ,HON,HVA⟩,by simp [intOf]; omega⟩
end WC
end Go.Proofs.YtiopfihjmkfdmaaGreatDoor
namespace Go.Proofs.YtiopfihjmkfdmaaGreatDoor
namespace WC
open Go.RowKit
set_option maxRecDepth 100000
set_option maxHeartbeats 4000000
abbrev StepA:=Int × ((Fin 8→Sp.Cg)→List TelT × ST)
def blkF:List StepA→ST→List TelT × ST
 | [],s=>([],s)
 | _ :: _,none=>([],none)
 | (p,G) :: xs,some e=>(.point p e :: ((G e).1 ++ (blkF xs (G e).2).1),(blkF xs (G e).2).2)
theorem blkF_none:∀ xs:List StepA,blkF xs none=([],none)
 | []=>rfl
 | _ :: _=>rfl
structure BlkIn (C:Cx) (π:Par) (T:Tab) (F:Fd) (b:Bool) (w:World) (xs:List StepA) (s:ST) (wa xa:Array Value) (j:Nat) (sj:ST) (ej:List TelT) (W:World):Prop where
 eq:blkF xs s=(ej ++ (blkF (xs.drop j) sj).1,(blkF (xs.drop j) sj).2)
 a:AnAt C π T (told π b F ej) W
 k:AKeep C w W
 o:W.heap[w.heap.size]?=some (.cells wa 200)
 x:W.heap[w.heap.size + 1]?=some (.cells xa 203)
 z:W.heap[w.heap.size + 1 + 1]?=some (.cells #[.bool false,.int .i64 0,.int .i64 0,.int .i64 0,.int .i64 0,.int .i64 0,.int .i64 0,.int .i64 0,.int .i64 0,.int .i64 0,.int .i64 0,.int .i64 0,.int .i64 0,.int .i64 0,.int .i64 0,.int .i64 0,.int .i64 0] 203)
 wf:Sp.Wf (Kr π) sj
 rng:Rng b (told π b F ej) (blkF (xs.drop j) sj).1
 h:xa=stC sj
theorem block_calls (C:Cx) (π:Par) (T:Tab) (F:Fd) (b:Bool) (w:World) (g cap:Nat) (xs:List StepA) (vs:List Value) (hlen:vs.length=xs.length) (hg:g<C.base) (hmx:(xs.length:Int)≤9223372036854775807) (s:ST) (hs:Sp.Wf (Kr π) s) (h:AnAt C π T F w) (hr:Rng b F (blkF xs s).1)
  (hcell:∀ (i:Nat) (u:Value),vs[i]?=some u→w.cell? ⟨g,i,none⟩=some u)
  (he:∀ (i:Nat) (u:Value) (p:Int) (G:(Fin 8→Sp.Cg)→List TelT × ST),vs[i]?=some u→xs[i]?=some (p,G)→∃ t y,u=.iface t y∧WhereAt t y p∧(∀ e,(∀ k,Wv (e k))→Sp.Wf (Kr π) (G e).2) ∧
    ∀ F' W e,AKeep C w W→AnAt C π T F' W→(∀ k,Wv (e k))→Rng b F' (G e).1→Calls Tryz.prog 112 #[.agg (wk C b),u,.agg (stC (some e))] W (Post C π T F' b W (G e).1 (G e).2)) :
  Calls Tryz.prog 78 #[.agg (wk C b),.slice (some ⟨g,0,none⟩) xs.length cap,.agg (stC s)] w (Post C π T F b w (blkF xs s).1 (blkF xs s).2):=by
 have hws:=wk_size C b
 have HPt:Hid (∀ F' W p e,AnAt C π T F' W→(∀ k,Wv (e k))→Rng b F' [.point p e]→Calls _ _ _ W _):=fun F' W p e hW hwv hrg=>point_calls C π T F' b W hW p e hwv hrg
 have HE:Hid (_):=he
 generalize hwa:wk C b=wa at *
 have HWA:Hid (wk C b=wa):=hwa
 obtain ⟨xa,hxa⟩:∃ xa,xa=stC s:=⟨_,rfl⟩
 rw [← hxa]
 have H0:Hid (BlkIn C π T F b w xs s wa xa 0 s [] (((w.alloc (.cells wa 200)).alloc (.cells xa 203)).alloc (.cells #[.bool false,.int .i64 0,.int .i64 0,.int .i64 0,.int .i64 0,.int .i64 0,.int .i64 0,.int .i64 0,.int .i64 0,.int .i64 0,.int .i64 0,.int .i64 0,.int .i64 0,.int .i64 0,.int .i64 0,.int .i64 0,.int .i64 0] 203))):=by
  obtain ⟨k0,k1,k2,kb⟩:=laid3b (w:=w) (o1:=.cells wa 200) (o2:=.cells xa 203) (o3:=.cells #[.bool false,.int .i64 0,.int .i64 0,.int .i64 0,.int .i64 0,.int .i64 0,.int .i64 0,.int .i64 0,.int .i64 0,.int .i64 0,.int .i64 0,.int .i64 0,.int .i64 0,.int .i64 0,.int .i64 0,.int .i64 0,.int .i64 0] 203) (Below.refl _ _)
  exact ⟨rfl,by rw [told_nil]; exact h.call kb,AKeep.of_below kb h.le,k0,k1,k2,hs,by rw [told_nil]; exact hr,hxa⟩
 have HA:Hid (AnAt C π T F w):=h
 have HCell:Hid (_):=hcell
 have l1:w.heap.size≤w.heap.size + 1:=by omega
 have l2:w.heap.size≤w.heap.size + 1 + 1:=by omega
 clear h he hcell hwa hxa hr hs
 go_enter Tryz.func78,Tryz.ntmps78
 go_wp2_with fail
 generalize ((w.alloc (.cells wa 200)).alloc (.cells xa 203)).alloc (.cells #[.bool false,.int .i64 0,.int .i64 0,.int .i64 0,.int .i64 0,.int .i64 0,.int .i64 0,.int .i64 0,.int .i64 0,.int .i64 0,.int .i64 0,.int .i64 0,.int .i64 0,.int .i64 0,.int .i64 0,.int .i64 0,.int .i64 0] 203)=W0 at *
 go_loopw [8,11] (fun _ i wr=>∃ (j:Nat) (sj:ST) (ej:List TelT) (xj:Array Value),j≤xs.length∧i=.int .i64 j∧Hid (BlkIn C π T F b w xs s wa xj j sj ej wr)) (fun _ i _=>xs.length - (intOf i).toNat)
 case atStart=>exact ⟨0,s,[],xa,Nat.zero_le _,rfl,H0.out⟩
 case round =>
  obtain ⟨j,sj,ej,xj,hj,rfl,hq⟩:=hrel
  clear H0
  have x17:xj.size=17:=by rw [hq.out.h]; exact stC_size sj
  have x1:xj.all (·.oneCell')=true:=by rw [hq.out.h]; exact stC_one sj
  have HX:Hid (_=_):=hq.out.x
  have HZ:Hid (_=_):=hq.out.z
  have HO:Hid (_=_):=hq.out.o
  by_cases hjlt:j<xs.length
  ·obtain ⟨v,hv⟩:∃ v,vs[j]?=some v:=⟨_,List.getElem?_eq_getElem (by omega)⟩
   obtain ⟨pg,hx⟩:∃ x,xs[j]?=some x:=⟨_,List.getElem?_eq_getElem hjlt⟩
   obtain ⟨p,G⟩:=pg
   obtain ⟨t,y,rfl,hwh,hwG,hst⟩:=HE.out j v p G hv hx
   have hcu:wr.cell? ⟨g,j,none⟩=some (.iface t y):=by
    rw [hq.out.k.below.cell (p:=⟨g,j,none⟩) hg]; exact HCell.out j _ hv
   have hdrop:xs.drop j=(p,G) :: xs.drop (j + 1):=by
    rw [List.drop_eq_getElem_cons hjlt,(List.getElem?_eq_some_iff.1 hx).2]
   have hjl:((j:Nat):Int)<((xs.length:Nat):Int):=by omega
   cases sj with
   | none =>
    have E:Hid (blkF xs s=(ej,none)):=by
     have:=hq.out.eq
     rw [blkF_none] at this
     unfold Hid
     rw [this]
     show (ej ++ [],none)=(ej,none)
     rw [List.append_nil]
    have hr0:Hid (_=_):=setCells_whole hq.out.z (d:=xj) (by rw [x17]; rfl)
    have HBf:Hid (Below w.heap.size wr _):=setCells_below (b:=w.heap.size + 1 + 1) l2 xj.toList 0 wr _ (Below.refl _ _)
    have d0:xj[0]?=some (.bool false):=by rw [hq.out.h]; rfl
    have c0:=cell_of HX.out 0 d0
    clear hst hwh hwG hdrop
    go_wp2_with (first
     | (refine wp_ld rfl _ rfl rfl HX.out x17 ?_)
     | (refine wp_st rfl _ _ rfl rfl rfl HZ.out rfl x17 x1 ?_))
    refine bodyPost_ret (results_st Tryz.results78 _ _ rfl hr0.out x17) rfl ?_
    rw [E.out]
    exact ⟨by rw [hq.out.h],HA.out.upon hq.out.a HBf.out,AKeep.upon HA.out hq.out.k HBf.out⟩
   | some e =>
    have hwe:=hq.out.wf e rfl
    have hrg:=hq.out.rng
    rw [hdrop] at hrg
    have hrg1:Rng b (told π b F ej) [.point p e]:=Rng.left (es':=(G e).1 ++ (blkF (xs.drop (j + 1)) (G e).2).1) hrg
    have hrg2:Rng b (told π b (told π b F ej) [.point p e]) ((G e).1 ++ (blkF (xs.drop (j + 1)) (G e).2).1):=Rng.right (es:=[.point p e]) hrg
    have d0:xj[0]?=some (.bool true):=by rw [hq.out.h]; rfl
    have c0:=cell_of HX.out 0 d0
    have HG:Hid (_):=hst
    have hP:=HPt.out (told π b F ej) wr.drew p e (HA.out.upon hq.out.a (Below.refl _ _).drew) hwe hrg1
    rw [← hq.out.h] at hP
    have H1:Hid (wr.drew.heap[w.heap.size]?=some (.cells wa 200)∧wr.drew.heap[w.heap.size + 1]?=some (.cells xj 203)∧wr.drew.heap[w.heap.size + 1 + 1]?=some (.cells #[.bool false,.int .i64 0,.int .i64 0,.int .i64 0,.int .i64 0,.int .i64 0,.int .i64 0,.int .i64 0,.int .i64 0,.int .i64 0,.int .i64 0,.int .i64 0,.int .i64 0,.int .i64 0,.int .i64 0,.int .i64 0,.int .i64 0] 203)):=⟨HO.out,HX.out,HZ.out⟩
    have HP:Hid (Calls _ _ _ wr.drew _):=hP
    clear hst hP
    have hwm:∀ w,(method 587 t y "Where").run Tryz.prog w=.ok (72,.int .i64 p) w:=hwh
    have e17:=stC_size (G e).2
    have e1o:=stC_one (G e).2
    go_wp2_with fail
    refine wp_region_held_drew (S:=fun w':World=>w'.heap[w.heap.size]?=some (.cells wa 200)∧w'.heap[w.heap.size + 1]?=some (.cells xj 203)∧w'.heap[w.heap.size + 1 + 1]?=some (.cells #[.bool false,.int .i64 0,.int .i64 0,.int .i64 0,.int .i64 0,.int .i64 0,.int .i64 0,.int .i64 0,.int .i64 0,.int .i64 0,.int .i64 0,.int .i64 0,.int .i64 0,.int .i64 0,.int .i64 0,.int .i64 0,.int .i64 0] 203)) (by kernel_rfl) H1.out (fun hHeld=>?_)
    refine tky 0 rfl (yieldsIf_load_mid (by rfl) _ _ rfl _ _ rfl (wa).toList _ (fun w' h=>range_of h.1) Tryz.underlying200 rfl (by rw [infoWk,Array.length_toList,hws])) hHeld ?_
    simp only [Act.put]
    refine tky 3 rfl (yieldsIf_load_mid (by rfl) _ _ rfl _ _ rfl (xj).toList _ (fun w' h=>range_of h.2.1) Tryz.underlying203 rfl (by rw [infoSt,Array.length_toList,x17])) hHeld ?_
    simp only [Act.put]
    refine tk 1 (.iface t y) rfl (fun w' h=>by go_simp) hHeld ?_
    simp only [Act.put]
    refine rd1 2 fun K hK=>?_
    simp only [gsb,gsa,Array.toArray_toList]
    go_simp
    refine (anwhere_calls p _).mono ?_
    rintro r w1 ⟨rfl,rfl⟩
    go_wp2_with fail
    refine hK.out _ _ hHeld (fun hHeld=>?_)
    clear hK K
    refine rd1 4 fun K hK=>?_
    simp only [gsb]
    go_simp
    refine HP.out.mono ?_
    rintro r w1 ⟨rfl,a1,b1⟩
    have HA1:Hid (AnAt C π T (told π b (told π b F ej) [.point p e]) w1):=a1
    have HK1:Hid (AKeep C w w1):=(AKeep.upon HA.out hq.out.k (Below.refl _ _).drew).trans b1
    have k0:=b1.mine HA.out (Nat.le_refl _) hHeld.1
    have k1:=b1.mine HA.out l1 hHeld.2.1
    have k2:=b1.mine HA.out l2 hHeld.2.2
    have K0:Hid (_=_):=k0
    have K1:Hid (_=_):=k1
    have K2:Hid (_=_):=k2
    have hG:=HG.out _ w1 e HK1.out HA1.out hwe hrg2.left
    rw [← hq.out.h] at hG
    have HGG:Hid (Calls _ _ _ w1 _):=hG
    have hrg3:=hrg2.right (π:=π)
    have HEQ:Hid (_=_):=hq.out.eq
    have HWG:Hid (Sp.Wf _ _):=hwG e hwe
    clear hG a1 HG HP HX HZ HO hHeld
    go_wp2_with fail
    refine hK.out _ _ ⟨k0,k1,k2⟩ (fun _=>?_)
    clear hK K k0 k1 k2 b1
    refine wpAnyH_done (by kernel_rfl) ?_ _
    go_wp2_with (first
     | (refine wp_ldW rfl _ rfl rfl K0.out hws ?_)
     | (refine wp_ld rfl _ rfl rfl K1.out x17 ?_))
    refine HGG.out.mono ?_
    unfold Post
    generalize hue:stC (G e).2=ue at *
    rintro r w2 ⟨rfl,a2,b2⟩
    have y0:=b2.mine HA.out (Nat.le_refl _) K0.out
    have y1:=b2.mine HA.out l1 K1.out
    have y2:=b2.mine HA.out l2 K2.out
    have Y1:Hid (_=_):=y1
    have HB3:Hid (Below w.heap.size w2 _):=setCells_below (b:=w.heap.size + 1) l1 ue.toList 0 w2 _ (Below.refl _ _)
    have HQ:Hid (BlkIn C π T F b w xs s wa ue (j + 1) (G e).2 (ej ++ [.point p e] ++ (G e).1) (w2.setCells (w.heap.size + 1) 0 ue.toList)):=by
     refine ⟨?_,?_,AKeep.upon HA.out (HK1.out.trans b2) HB3.out,(setCells_other _ _ _ _ (by omega)).trans y0,setCells_whole y1 (by rw [e17,x17]),(setCells_other _ _ _ _ (by omega)).trans y2,HWG.out,?_,hue.symm⟩
     ·rw [HEQ.out,hdrop]
      simp only [blkF,List.append_assoc,List.cons_append,List.nil_append]
     ·rw [told_append,told_append]
      exact HA.out.upon a2 HB3.out
     ·rw [told_append,told_append]
      exact hrg3
    clear y0 y1 y2 a2 b2 HGG hrg3 HEQ
    go_wp2_with (first
     | (refine wp_st rfl _ _ rfl rfl rfl Y1.out x17 e17 e1o ?_))
    exact ⟨⟨j + 1,(G e).2,_,ue,by omega,by go_num,HQ⟩,by simp [intOf]; omega⟩
  ·have E:Hid (blkF xs s=(ej,sj)):=by
    have:=hq.out.eq
    rw [List.drop_of_length_le (by omega)] at this
    unfold Hid
    rw [this]
    show (ej ++ [],sj)=(ej,sj)
    rw [List.append_nil]
   have hr0:Hid (_=_):=setCells_whole hq.out.z (d:=xj) (by rw [x17]; rfl)
   have HBf:Hid (Below w.heap.size wr _):=setCells_below (b:=w.heap.size + 1 + 1) l2 xj.toList 0 wr _ (Below.refl _ _)
   go_wp2_with (first
    | (refine wp_ld rfl _ rfl rfl HX.out x17 ?_)
    | (refine wp_st rfl _ _ rfl rfl rfl HZ.out rfl x17 x1 ?_))
   refine bodyPost_ret (results_st Tryz.results78 _ _ rfl hr0.out x17) rfl ?_
   rw [E.out]
   exact ⟨by rw [hq.out.h],HA.out.upon hq.out.a HBf.out,AKeep.upon HA.out hq.out.k HBf.out⟩
end WC
end Go.Proofs.YtiopfihjmkfdmaaGreatDoor
