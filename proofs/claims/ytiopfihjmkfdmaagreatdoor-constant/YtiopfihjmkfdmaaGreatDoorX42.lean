import Derived.Test.YtiopfihjmkfdmaaGreatDoorX40
namespace Go.Proofs.YtiopfihjmkfdmaaGreatDoor
namespace WC
open Go.RowKit
set_option maxRecDepth 100000
set_option maxHeartbeats 1000000
theorem assign_calls (p:Int) (k:Nat) (hk:k<8) (tv:TypeId) (uv:Value) (C:Cx) (π:Par) (T:Tab) (F:Fd) (b:Bool) (w:World) (e:Fin 8→Sp.Cg) (es:List TelT) (o:Option Sp.Cg) (h:AnAt C π T F w)
  (hs:SumsAt C π T F b (.iface tv uv) e es o) (u:ST) (hu:u=o.map fun v=>(show Fin 8→Sp.Cg from Sp.setV (Dm π) e k v)) :
  Calls Tryz.prog 153 #[.agg (wk C b),.agg #[.int .i64 p,.int .i64 (k:Nat),.iface tv uv],.agg (stC (some e))] w (Post C π T F b w es u):=by
 obtain ⟨k0,k1,k2,k3,kb⟩:=laid4b (w:=w) (o1:=.cells (wk C b) 200) (o2:=.cells #[.int .i64 p,.int .i64 (k:Nat),.iface tv uv] 279) (o3:=.cells (stC (some e)) 203) (o4:=.cells #[.bool false,.int .i64 0,.int .i64 0,.int .i64 0,.int .i64 0,.int .i64 0,.int .i64 0,.int .i64 0,.int .i64 0,.int .i64 0,.int .i64 0,.int .i64 0,.int .i64 0,.int .i64 0,.int .i64 0,.int .i64 0,.int .i64 0] 203) (Below.refl _ _)
 have HW:=hs _ (h.call kb)
 have hws:=wk_size C b
 have hx17:=stC_size (some e)
 have hk':(k:Int)<8:=by omega
 obtain ⟨x0,x1⟩:=stC_get e ⟨k,hk⟩
 have HST:Hid (∀ v:Sp.Cg,_=_):=fun v=>stC_set (π:=π) e k hk v
 have HO1:Hid (∀ v:Sp.Cg,(stC (show ST from some (Sp.setV (Dm π) e k v))).size=17∧(stC (show ST from some (Sp.setV (Dm π) e k v))).all (·.oneCell')=true):=fun v=>⟨stC_size _,stC_one _⟩
 generalize e ⟨k,hk⟩=x at *
 simp only at x0 x1
 obtain ⟨na,hna⟩:∃ na,na=noneI:=⟨_,rfl⟩
 have n17:na.size=17:=by rw [hna]; rfl
 have HNA:Hid (na=noneI):=hna
 generalize wk C b=wa at *
 generalize stC (some e)=xa at *
 have K0:Hid (_=_):=k0
 have K1:Hid (_=_):=k1
 have K2:Hid (_=_):=k2
 have K3:Hid (_=_):=k3
 have c2:=cell_of k1 2 (v:=.iface tv uv) rfl
 have HB:Hid (Below w.heap.size w _):=kb
 have HA:Hid (AnAt C π T F w):=h
 have l1:w.heap.size≤w.heap.size + 1:=by omega
 have l2:w.heap.size≤w.heap.size + 1 + 1:=by omega
 have l3:w.heap.size≤w.heap.size + 1 + 1 + 1:=by omega
 clear h hs k0 k1 k2 k3 kb hna
 go_enter Tryz.func153,Tryz.ntmps153
 go_wp2_with (first
  | (refine wp_ldW rfl _ rfl rfl K0.out hws ?_)
  | (refine wp_ld rfl _ rfl rfl K2.out hx17 ?_))
 refine HW.mono ?_
 rintro r w1 ⟨rfl,a1,b1⟩
 have hsz:w.heap.size≤w1.heap.size:=Nat.le_trans HB.out.size b1.below.size
 have HZ1:Hid (_=_):=b1.mine HA.out l3 K3.out
 have HX1:Hid (_=_):=b1.mine HA.out l2 K2.out
 have HC1:Hid (_=_):=b1.mine HA.out l1 K1.out
 have HA1:Hid (AnAt C π T (told π b F es) w1):=a1
 have HK1:Hid (AKeep C w w1):=(AKeep.of_below HB.out HA.out.le).trans b1
 clear a1 b1 HW
 cases o with
 | none =>
  obtain rfl:u=none:=hu
  have kb2:=below_alloc1 w1 (.cells #[.int .i64 0,.int .i64 0] 126)
  have hz2:=(kb2.block _ (heap_lt HZ1.out)).trans HZ1.out
  have HZ2:Hid (_=_):=hz2
  have hr0:Hid (_=_):=setCells_whole hz2 (d:=na) (by rw [n17]; rfl)
  have HBf:Hid (Below w.heap.size w1 _):=setCells_below (b:=w.heap.size + 1 + 1 + 1) l3 na.toList 0 w1 _ (kb2.mono hsz)
  clear hz2 kb2
  simp only [opV]
  go_wp2_with (first
   | (refine wp_stZ rfl _ _ rfl rfl rfl HNA.out HZ2.out rfl ?_))
  refine bodyPost_ret (results_st Tryz.results153 _ _ rfl hr0.out n17) rfl ⟨by rw [HNA.out]; rfl,HA.out.upon HA1.out HBf.out,AKeep.upon HA.out HK1.out HBf.out⟩
 | some v =>
  have hu':Hid (u=(show ST from some (Sp.setV (Dm π) e k v))):=hu
  clear hu
  have kb2:=below_alloc1 w1 (.cells #[.int .i64 ((v.m:Nat):Int),.int .i64 v.r] 126)
  obtain ⟨n0,n1,_,_,_⟩:=res2 (heap_alloc_new w1 (.cells #[.int .i64 ((v.m:Nat):Int),.int .i64 v.r] 126))
  have hx2:=(kb2.block _ (heap_lt HX1.out)).trans HX1.out
  have hz2:=(kb2.block _ (heap_lt HZ1.out)).trans HZ1.out
  have hc2:=(kb2.block _ (heap_lt HC1.out)).trans HC1.out
  have e1:=cell_of hc2 1 (v:=.int .i64 (k:Nat)) rfl
  have y0:=cell_of hx2 _ x0
  have y1:=cell_of hx2 _ x1
  have f0:=frozen_of hx2 (1 + k * 2)
  have f1:=frozen_of hx2 (1 + k * 2 + 1)
  have hx3:=heap_setCell_at (heap_setCell_at hx2 (1 + k * 2) (.int .i64 ((v.m:Nat):Int))) (1 + k * 2 + 1) (.int .i64 v.r)
  rw [HST.out v] at hx3
  have hne3:w.heap.size + 1 + 1 + 1 ≠ w.heap.size + 1 + 1:=by omega
  have hz3:(((w1.alloc (.cells #[.int .i64 ((v.m:Nat):Int),.int .i64 v.r] 126)).setCell ⟨w.heap.size + 1 + 1,1 + k * 2,none⟩ (.int .i64 ((v.m:Nat):Int))).setCell ⟨w.heap.size + 1 + 1,1 + k * 2 + 1,none⟩ (.int .i64 v.r)).heap[w.heap.size + 1 + 1 + 1]?=some (.cells #[.bool false,.int .i64 0,.int .i64 0,.int .i64 0,.int .i64 0,.int .i64 0,.int .i64 0,.int .i64 0,.int .i64 0,.int .i64 0,.int .i64 0,.int .i64 0,.int .i64 0,.int .i64 0,.int .i64 0,.int .i64 0,.int .i64 0] 203):=by
   rw [Below.heap_setCell _ _ _ _ (show w.heap.size + 1 + 1 + 1 ≠ (⟨w.heap.size + 1 + 1,1 + k * 2 + 1,none⟩:Addr).block from hne3),Below.heap_setCell _ _ _ _ (show w.heap.size + 1 + 1 + 1 ≠ (⟨w.heap.size + 1 + 1,1 + k * 2,none⟩:Addr).block from hne3)]
   exact hz2
  have HX3:Hid (_=_):=hx3
  have HZ3:Hid (_=_):=hz3
  obtain ⟨o1,o2⟩:=HO1.out v
  have hr0:Hid (_=_):=setCells_whole hz3 (d:=stC (show ST from some (Sp.setV (Dm π) e k v))) (by rw [o1]; rfl)
  have HBf:Hid (Below w.heap.size w1 _):=setCells_below (b:=w.heap.size + 1 + 1 + 1) l3 (stC (show ST from some (Sp.setV (Dm π) e k v))).toList 0 w1 _ (((kb2.mono hsz).setCell (p:=⟨w.heap.size + 1 + 1,1 + k * 2,none⟩) l2 (.int .i64 ((v.m:Nat):Int))).setCell (p:=⟨w.heap.size + 1 + 1,1 + k * 2 + 1,none⟩) l2 (.int .i64 v.r))
  clear hx3 hz3 hx2 hz2 hc2 kb2 HST HO1
  generalize hzz:stC (show ST from some (Sp.setV (Dm π) e k v))=za at *
  have HZZ:Hid (_=za):=hzz
  clear hzz
  simp only [opV]
  go_wp2_with (first
   | (refine wp_ld rfl _ rfl rfl (c:=za) (by exact HX3.out) o1 ?_)
   | (refine wp_st rfl _ _ rfl rfl (c:=#[.bool false,.int .i64 0,.int .i64 0,.int .i64 0,.int .i64 0,.int .i64 0,.int .i64 0,.int .i64 0,.int .i64 0,.int .i64 0,.int .i64 0,.int .i64 0,.int .i64 0,.int .i64 0,.int .i64 0,.int .i64 0,.int .i64 0]) (d:=za) rfl (by exact HZ3.out) rfl o1 o2 ?_))
  refine bodyPost_ret (results_st Tryz.results153 _ _ rfl hr0.out o1) rfl ⟨by rw [hu'.out]; exact congrArg (fun z=>Ending.returned (.agg z)) HZZ.out.symm,HA.out.upon HA1.out HBf.out,AKeep.upon HA.out HK1.out HBf.out⟩
end WC
end Go.Proofs.YtiopfihjmkfdmaaGreatDoor
namespace Go.Proofs.YtiopfihjmkfdmaaGreatDoor
namespace WC
open Go.RowKit
set_option maxRecDepth 100000
set_option maxHeartbeats 8000000
structure LoIn (C:Cx) (π:Par) (T:Tab) (F:Fd) (w:World) (wa ic xa:Array Value) (W:World):Prop where
 a:AnAt C π T F W
 k:AKeep C w W
 o:W.heap[w.heap.size]?=some (.cells wa 200)
 c:W.heap[w.heap.size + 1]?=some (.cells ic 293)
 s:W.heap[w.heap.size + 1 + 1]?=some (.cells xa 203)
 z:W.heap[w.heap.size + 1 + 1 + 1]?=some (.cells #[.bool false,.int .i64 0,.int .i64 0,.int .i64 0,.int .i64 0,.int .i64 0,.int .i64 0,.int .i64 0,.int .i64 0,.int .i64 0,.int .i64 0,.int .i64 0,.int .i64 0,.int .i64 0,.int .i64 0,.int .i64 0,.int .i64 0] 203)
theorem LoIn.call {C:Cx} {π:Par} {T:Tab} {F:Fd} {w:World} {wa ic xa:Array Value} {W W':World} (h:LoIn C π T F w wa ic xa W) (k:Below W.heap.size W W'):LoIn C π T F w wa ic xa W' :=
 ⟨h.a.call k,h.k.trans (AKeep.of_below k h.a.le),(k.block _ (heap_lt h.o)).trans h.o,(k.block _ (heap_lt h.c)).trans h.c,(k.block _ (heap_lt h.s)).trans h.s,(k.block _ (heap_lt h.z)).trans h.z⟩
theorem LoIn.keep {C:Cx} {π:Par} {T:Tab} {F F' F0:Fd} {w:World} {wa ic xa:Array Value} {W W':World} (h:LoIn C π T F w wa ic xa W) (h0:AnAt C π T F0 w) (ha:AnAt C π T F' W') (k:AKeep C W W'):LoIn C π T F' w wa ic xa W' :=
 ⟨ha,h.k.trans k,k.mine h0 (Nat.le_refl _) h.o,k.mine h0 (by omega) h.c,k.mine h0 (by omega) h.s,k.mine h0 (by omega) h.z⟩
theorem LoIn.put {C:Cx} {π:Par} {T:Tab} {F F0:Fd} {w:World} {wa ic xa:Array Value} {W:World} (h:LoIn C π T F w wa ic xa W) (h0:AnAt C π T F0 w) {p:Nat} (hp:w.heap.size + 1 + 1 + 1<p) (l:List Value):LoIn C π T F w wa ic xa (W.setCells p 0 l):=by
 have hb:Below w.heap.size W (W.setCells p 0 l):=setCells_below (b:=p) (by omega) l 0 W _ (Below.refl _ _)
 exact ⟨h0.upon h.a hb,AKeep.upon h0 h.k hb,(setCells_other _ _ _ _ (by omega)).trans h.o,(setCells_other _ _ _ _ (by omega)).trans h.c,(setCells_other _ _ _ _ (by omega)).trans h.s,(setCells_other _ _ _ _ (by omega)).trans h.z⟩
theorem wp_bld {ops:Array Oper} {rest:List Oper} {op:Oper} {a:Act} {w:World} {Q:Exit→Act→World→Prop} (hgd:op.guard=none) {t:TypeId} {parts:Array (Nat × Operand)} (ho:op.op=.build t parts) {vals:Array (Nat × Value)} (hp:(parts.map fun (i,x)=>(i,a.eval x))=vals) {v:Value} (hb:(Instr.build t vals).run Tryz.prog w=.ok v w)
  (k:wpList Tryz.prog ops Q rest (a.put op.dst v) w):wpList Tryz.prog ops Q (op :: rest) a w :=
 wpList_plain hgd fun _ hK=>by
  unfold Oper.wp execOp
  simp only [ho,hp,Sem.run_bind,Sem.run_pure,Result.andThen_ok,hb]
  exact hK _ _ k
theorem yields_bld {ops:Array Oper} {S:World→Prop} {op:Oper} {a:Act} (hw:Region.wanted op (yielded ops a.tmps)=true) {t:TypeId} {parts:Array (Nat × Operand)} (ho:op.op=.build t parts) {vals:Array (Nat × Value)} (hp:(parts.map fun (i,x)=>(i,a.eval x))=vals) {v:Value} (hb:∀ w,(Instr.build t vals).run Tryz.prog w=.ok v w):YieldsIf Tryz.prog ops S op v a :=
 .inl ⟨hw,fun w _=>by
  unfold execOp
  simp only [ho,hp,Sem.run_bind,Sem.run_pure,Result.andThen_ok,hb]⟩
theorem wp_look {ops:Array Oper} {rest:List Oper} {op:Oper} {a:Act} {w:World} {Q:Exit→Act→World→Prop} (hgd:op.guard=none) {t:TypeId} {x y:Operand} {c:Bool} (ho:op.op=.lookup t x y c) {m ky:Value} (hx:a.eval x=m) (hy:a.eval y=ky) {v:Value} (hb:(Instr.lookup t m ky c).run Tryz.prog w=.ok v w)
  (k:wpList Tryz.prog ops Q rest (a.put op.dst v) w):wpList Tryz.prog ops Q (op :: rest) a w :=
 wpList_plain hgd fun _ hK=>by
  unfold Oper.wp execOp
  simp only [ho,hx,hy,Sem.run_bind,Sem.run_pure,Result.andThen_ok,hb]
  exact hK _ _ k
theorem wp_mapPut {ops:Array Oper} {rest:List Oper} {op:Oper} {a:Act} {w w':World} {Q:Exit→Act→World→Prop} (hgd:op.guard=none) {t:TypeId} {x y z:Operand} (ho:op.op=.mapUpdate t x y z) {m ky vv:Value} (hx:a.eval x=m) (hy:a.eval y=ky) (hz:a.eval z=vv) (hb:(Instr.mapUpdate t m ky vv).run Tryz.prog w=.ok () w')
  (k:wpList Tryz.prog ops Q rest (a.put op.dst undef) w'):wpList Tryz.prog ops Q (op :: rest) a w :=
 wpList_plain hgd fun _ hK=>by
  unfold Oper.wp execOp
  simp only [ho,hx,hy,hz,Sem.run_bind,Sem.run_pure,Result.andThen_ok,hb]
  exact hK _ _ k
theorem wp_ldE {ops:Array Oper} {rest:List Oper} {op:Oper} {a:Act} {w:World} {Q:Exit→Act→World→Prop} (hgd:op.guard=none) (x:Operand) (ho:op.op=.load 356 x) {b:Nat} {c:Array Value} (hx:a.eval x=.pointer (some ⟨b,0,none⟩)) (h:w.heap[b]?=some (.cells c 356)) (hc:c.size=18)
  (k:wpList Tryz.prog ops Q rest (a.put op.dst (.agg c)) w):wpList Tryz.prog ops Q (op :: rest) a w:=by
 refine wpList_load_mid hgd 356 x ho b 0 hx c.toList _ (range_of h) Tryz.underlying356 rfl (by rw [infoEn]; simp [hc]) ?_
 simpa using k
theorem wp_stP {ops:Array Oper} {rest:List Oper} {op:Oper} {a:Act} {w:World} {Q:Exit→Act→World→Prop} (P:World→Prop) (hgd:op.guard=none) (x y:Operand) (ho:op.op=.store 358 x y) {b:Nat} {c d:Array Value} (hx:a.eval x=.pointer (some ⟨b,0,none⟩)) (hy:a.eval y=.agg d) (h:w.heap[b]?=some (.cells c 358)) (hc:c.size=18) (hd:d.size=18) (h1:d.all (·.oneCell')=true) (hP:P (w.setCells b 0 d.toList))
  (k:∀ W,P W→wpList Tryz.prog ops Q rest (a.put op.dst undef) W):wpList Tryz.prog ops Q (op :: rest) a w :=
 wpList_plain hgd fun _ hK=>wp_store_mid 358 x y ho b 0 d hx hy (by rw [hd,← hc]; exact there_of h) (by rw [infoPa,hd]) h1 (hK _ _ (k _ hP))
theorem wp_ldR {ops:Array Oper} {rest:List Oper} {op:Oper} {a:Act} {w:World} {Q:Exit→Act→World→Prop} (hgd:op.guard=none) (x:Operand) (ho:op.op=.load 203 x) {b:Nat} {c:Array Value} (hx:a.eval x=.pointer (some ⟨b,0,none⟩)) (h:w.rangeAt b 0 c.toList) (hc:c.size=17)
  (k:wpList Tryz.prog ops Q rest (a.put op.dst (.agg c)) w):wpList Tryz.prog ops Q (op :: rest) a w:=by
 refine wpList_load_mid hgd 203 x ho b 0 hx c.toList _ h Tryz.underlying203 rfl (by rw [infoSt]; simp [hc]) ?_
 simpa using k
theorem pas_range {w:World} {b:Nat} {t:ST} {d:Bool} (h:w.heap[b]?=some (.cells (pasA t d) 358)):w.rangeAt b 0 (stC t).toList:=fun j v hv=>by
 have hj:j<17:=by
  have:=(List.getElem?_eq_some_iff.1 hv).1
  rw [stC_len] at this
  exact this
 rw [Nat.zero_add]
 refine cell_of h j ?_
 rw [pasA_state t d hj]
 simpa using hv
theorem new_pa (w:World) (ka:Array Value) (h:ka.size=18) :
  (w.alloc (.cells #[.bool false,.int .i64 0,.int .i64 0,.int .i64 0,.int .i64 0,.int .i64 0,.int .i64 0,.int .i64 0,.int .i64 0,.int .i64 0,.int .i64 0,.int .i64 0,.int .i64 0,.int .i64 0,.int .i64 0,.int .i64 0,.int .i64 0,.bool false] 358)).heap[w.heap.size]?=some (.cells #[.bool false,.int .i64 0,.int .i64 0,.int .i64 0,.int .i64 0,.int .i64 0,.int .i64 0,.int .i64 0,.int .i64 0,.int .i64 0,.int .i64 0,.int .i64 0,.int .i64 0,.int .i64 0,.int .i64 0,.int .i64 0,.int .i64 0,.bool false] 358)∧((w.alloc (.cells #[.bool false,.int .i64 0,.int .i64 0,.int .i64 0,.int .i64 0,.int .i64 0,.int .i64 0,.int .i64 0,.int .i64 0,.int .i64 0,.int .i64 0,.int .i64 0,.int .i64 0,.int .i64 0,.int .i64 0,.int .i64 0,.int .i64 0,.bool false] 358)).setCells w.heap.size 0 ka.toList).heap[w.heap.size]?=some (.cells ka 358)∧Below w.heap.size w ((w.alloc (.cells #[.bool false,.int .i64 0,.int .i64 0,.int .i64 0,.int .i64 0,.int .i64 0,.int .i64 0,.int .i64 0,.int .i64 0,.int .i64 0,.int .i64 0,.int .i64 0,.int .i64 0,.int .i64 0,.int .i64 0,.int .i64 0,.int .i64 0,.bool false] 358)).setCells w.heap.size 0 ka.toList):=by
 have a1:=heap_alloc_new w (.cells #[.bool false,.int .i64 0,.int .i64 0,.int .i64 0,.int .i64 0,.int .i64 0,.int .i64 0,.int .i64 0,.int .i64 0,.int .i64 0,.int .i64 0,.int .i64 0,.int .i64 0,.int .i64 0,.int .i64 0,.int .i64 0,.int .i64 0,.bool false] 358)
 exact ⟨a1,setCells_whole a1 (by rw [h]; rfl),setCells_below (Nat.le_refl _) _ _ _ _ (below_alloc1 w _)⟩
theorem told_now (π:Par) (b:Bool) (F:Fd) (es:List TelT):b=true→Sp.ToldAll (Kr π) (told π b F es) es:=by
 intro hb
 subst hb
 exact Sp.toldAll_now (D:=Dm π) (K:=Kr π) es F
theorem loop_calls (p:Int) (hp:0≤p∧p≤1000000) (k:Nat) (tl:TypeId) (ul:Value) (tr:TypeId) (ur:Value) (av:Option Addr) (nv cv:Nat) (C:Cx) (π:Par) (T:Tab) (F:Fd) (b:Bool) (w:World) (s:ST) (h:AnAt C π T F w) (hs:Sp.Wf (Kr π) s)
  (har:∀ W,AKeep C w W→AnAt C π T F W→Calls Tryz.prog 196 #[.agg (wk C b),.agg (whA p k tl ul tr ur av nv cv),.agg (stC s)] W (Post C π T F b W (T p s).1 (T p s).2)) :
  Calls Tryz.prog 156 #[.agg (wk C b),.agg (whA p k tl ul tr ur av nv cv),.agg (stC s)] w (Post C π T F b w (T p s).1 (T p s).2):=by
 have hws:=wk_size C b
 have hw6:=wk_six C b
 have hw7:=wk_seven C b
 obtain ⟨wa,hwa⟩:∃ wa,wa=wk C b:=⟨_,rfl⟩
 obtain ⟨ic,hic⟩:∃ ic,ic=whA p k tl ul tr ur av nv cv:=⟨_,rfl⟩
 obtain ⟨xa,hxa⟩:∃ xa,xa=stC s:=⟨_,rfl⟩
 obtain ⟨ka,hka⟩:∃ ka,ka=keyA p s:=⟨_,rfl⟩
 obtain ⟨es,hes⟩:∃ es,es=(T p s).1:=⟨_,rfl⟩
 obtain ⟨u,hu⟩:∃ u,u=(T p s).2:=⟨_,rfl⟩
 obtain ⟨ua,hua⟩:∃ ua,ua=stC u:=⟨_,rfl⟩
 have HAR:Hid (∀ W,LoIn C π T F w wa ic xa W→Calls Tryz.prog 196 #[.agg wa,.agg (whA p k tl ul tr ur av nv cv),.agg xa] W fun r w'=>r=.returned (.agg ua)∧LoIn C π T (told π b F es) w wa ic xa w'∧AKeep C W w'):=fun W hW=>by
  have:=har W hW.k hW.a
  unfold Post at this
  rw [← hes,← hu,← hua,← hxa,← hwa] at this
  exact this.mono fun r w' q=>⟨q.1,hW.keep h q.2.1 q.2.2,q.2.2⟩
 have HLK:Hid (∀ W,LoIn C π T F w wa ic xa W→∃ t d ok,(Instr.lookup mapT (.map (some C.m)) (.agg ka) true).run Tryz.prog W=.ok (.tuple #[.agg (pasA t d),.bool ok]) W∧(ok=true→u=t∧(d=true→Sp.ToldAll (Kr π) F es))):=fun W hW=>by
  obtain ⟨es0,cl,hm,hE⟩:=hW.a.memo
  obtain ⟨t,d,ok,h1,h2⟩:=memo_look hm hE hs hp
  rw [hka,hu,hes]
  exact ⟨t,d,ok,h1,h2⟩
 have HPT:Hid (∀ W,LoIn C π T (told π b F es) w wa ic xa W→∃ W',(Instr.mapUpdate mapT (.map (some C.m)) (.agg ka) (.agg (pasA u b))).run Tryz.prog W=.ok () W'∧LoIn C π T (told π b F es) w wa ic xa W'∧AKeep C W W'):=fun W hW=>by
  obtain ⟨es0,cl,hm,hE⟩:=hW.a.memo
  obtain ⟨es',cl',k1,k2⟩:=memo_put (t:=u) (d:=b) hm hE hs hp hu.symm (by rw [← hes]; exact told_now π b F es)
  obtain ⟨k3,k4⟩:=hW.a.memoPut (cl:=cl') k2
  rw [hka]
  exact ⟨_,k1,hW.keep h k3 k4,k4⟩
 have HBE:Hid (∀ W,(Instr.build 356 #[(0,.int .i64 p),(1,.agg xa)]).run Tryz.prog W=.ok (.agg ka) W):=fun W=>by rw [hxa,hka]; exact build_en p s W
 have HBP:Hid (∀ W,(Instr.build 358 #[(0,.agg ua),(1,.bool b)]).run Tryz.prog W=.ok (.agg (pasA u b)) W):=fun W=>by rw [hua]; exact build_pa u b W
 have x17:xa.size=17:=by rw [hxa]; exact stC_size s
 have k18:ka.size=18:=by rw [hka]; exact keyA_size p s
 have k1o:ka.all (·.oneCell')=true:=by rw [hka]; exact keyA_one p s
 have r17:ua.size=17:=by rw [hua]; exact stC_size u
 have r1o:ua.all (·.oneCell')=true:=by rw [hua]; exact stC_one u
 rw [← hwa] at hws hw6 hw7
 rw [← hwa,← hxa,← hes,← hu]
 have hc0:ic[0]?=some (.int .i64 p):=by rw [hic]; rfl
 have hc1:ic[1]?=some (.int .i64 (k:Nat)):=by rw [hic]; rfl
 have hc2:ic[2]?=some (.iface tl ul):=by rw [hic]; rfl
 have hc3:ic[3]?=some (.iface tr ur):=by rw [hic]; rfl
 have hc4:ic[4]?=some (.slice av nv cv):=by rw [hic]; rfl
 obtain ⟨k0,k1,k2,k3,kb⟩:=laid4b (w:=w) (o1:=.cells wa 200) (o2:=.cells ic 293) (o3:=.cells xa 203) (o4:=.cells #[.bool false,.int .i64 0,.int .i64 0,.int .i64 0,.int .i64 0,.int .i64 0,.int .i64 0,.int .i64 0,.int .i64 0,.int .i64 0,.int .i64 0,.int .i64 0,.int .i64 0,.int .i64 0,.int .i64 0,.int .i64 0,.int .i64 0] 203) (Below.refl _ _)
 have H0:Hid (LoIn C π T F w wa ic xa ((((w.alloc (.cells wa 200)).alloc (.cells (whA p k tl ul tr ur av nv cv) 293)).alloc (.cells xa 203)).alloc (.cells #[.bool false,.int .i64 0,.int .i64 0,.int .i64 0,.int .i64 0,.int .i64 0,.int .i64 0,.int .i64 0,.int .i64 0,.int .i64 0,.int .i64 0,.int .i64 0,.int .i64 0,.int .i64 0,.int .i64 0,.int .i64 0,.int .i64 0] 203))):=by
  rw [← hic]
  exact ⟨h.call kb,AKeep.of_below kb h.le,k0,k1,k2,k3⟩
 have HA:Hid (AnAt C π T F w):=h
 have HUA:Hid (ua=stC u):=hua
 clear h hs har hp hwa hic hxa hka hes hu hua k0 k1 k2 k3 kb
 go_enter Tryz.func156,Tryz.ntmps156
 go_wp2_with fail
 generalize (((w.alloc (.cells wa 200)).alloc (.cells (whA p k tl ul tr ur av nv cv) 293)).alloc (.cells xa 203)).alloc (.cells #[.bool false,.int .i64 0,.int .i64 0,.int .i64 0,.int .i64 0,.int .i64 0,.int .i64 0,.int .i64 0,.int .i64 0,.int .i64 0,.int .i64 0,.int .i64 0,.int .i64 0,.int .i64 0,.int .i64 0,.int .i64 0,.int .i64 0] 203)=W0 at *
 go_cut [7] from 11 to 15 (fun v7 wc=>∃ kE:Nat,v7=.pointer (some ⟨kE,0,none⟩)∧Hid (w.heap.size + 1 + 1 + 1<kE∧LoIn C π T F w wa ic xa wc∧wc.heap[kE]?=some (.cells ka 356)))
 case first =>
  have H1:Hid (LoIn C π T F w wa ic xa W0.drew):=H0.out.call (Below.refl _ _).drew
  refine wp_region_held_drew (S:=fun w':World=>LoIn C π T F w wa ic xa w') (by kernel_rfl) H1.out (fun hHeld=>?_)
  refine tky 3 rfl (yieldsIf_load_mid (by rfl) _ _ rfl _ _ rfl (xa).toList _ (fun w' h=>range_of h.s) Tryz.underlying203 rfl (by rw [infoSt,Array.length_toList,x17])) hHeld ?_
  simp only [Act.put]
  refine tk 0 (.pointer (some ⟨w.heap.size + 1,0,none⟩)) rfl (fun w' h=>by go_simp) hHeld ?_
  simp only [Act.put]
  refine tk 1 (.int .i64 p) rfl (fun w' h=>by have d0:=cell_of h.c 0 hc0; go_simp) hHeld ?_
  simp only [Act.put]
  refine wpAnyH_ready (rs:=[2,5]) (by kernel_rfl) (by simp) ?_
  refine AllReadyH.cons (i:=2) (o:=_) (by rfl) ?_ (AllReadyH.cons (i:=5) (o:=_) (by rfl) ?_ AllReadyH.nil)
  ·intro K hK
   simp only [gsb,gsa,Array.toArray_toList]
   go_simp
   refine (anwhere_calls p _).mono ?_
   rintro r w0 ⟨rfl,rfl⟩
   go_wp2_with fail
   refine hK.out _ _ hHeld (fun hHeld=>?_)
   clear hK K
   refine tky 4 (v:=.agg ka) rfl (yields_bld (by rfl) rfl (vals:=#[(0,.int .i64 p),(1,.agg xa)]) (by kernel_rfl) HBE.out) hHeld ?_
   simp only [Act.put]
   refine rd1 5 fun K hK=>?_
   simp only [gsb]
   have hp:w.heap.size + 1 + 1 + 1<W0.drew.heap.size:=heap_lt hHeld.z
   have kb:=below_alloc1 W0.drew (.cells #[.int .i64 0,.bool false,.int .i64 0,.int .i64 0,.int .i64 0,.int .i64 0,.int .i64 0,.int .i64 0,.int .i64 0,.int .i64 0,.int .i64 0,.int .i64 0,.int .i64 0,.int .i64 0,.int .i64 0,.int .i64 0,.int .i64 0,.int .i64 0] 356)
   have hz:=heap_alloc_new W0.drew (.cells #[.int .i64 0,.bool false,.int .i64 0,.int .i64 0,.int .i64 0,.int .i64 0,.int .i64 0,.int .i64 0,.int .i64 0,.int .i64 0,.int .i64 0,.int .i64 0,.int .i64 0,.int .i64 0,.int .i64 0,.int .i64 0,.int .i64 0,.int .i64 0] 356)
   have hh:=hHeld.call kb
   clear kb
   go_simp
   refine hK.out _ _ hh (fun hHeld=>?_)
   clear hK K hh
   refine wpAnyH_ready (rs:=[6]) (by kernel_rfl) (by simp) ?_
   refine AllReadyH.cons rfl (fun K hK=>?_) AllReadyH.nil
   rw [if_pos (by rfl)]
   refine wp_store_mid _ _ _ rfl _ _ ka rfl rfl (by rw [k18]; exact there_of hz) (by rw [infoEn,k18]) k1o ?_
   have hh2:=hHeld.put HA.out hp ka.toList
   refine hK.out _ _ hh2 (fun _=>?_)
   clear hK K
   refine wpAnyH_done (by kernel_rfl) ?_ _
   go_wp2_with fail
   go_meet
   case rel=>exact ⟨_,rfl,hp,hh2,setCells_whole hz (by rw [k18]; rfl)⟩
  ·intro K hK
   simp only [gsb,gsa,Array.toArray_toList]
   have hp:w.heap.size + 1 + 1 + 1<W0.drew.heap.size:=heap_lt hHeld.z
   have kb:=below_alloc1 W0.drew (.cells #[.int .i64 0,.bool false,.int .i64 0,.int .i64 0,.int .i64 0,.int .i64 0,.int .i64 0,.int .i64 0,.int .i64 0,.int .i64 0,.int .i64 0,.int .i64 0,.int .i64 0,.int .i64 0,.int .i64 0,.int .i64 0,.int .i64 0,.int .i64 0] 356)
   have hz:=heap_alloc_new W0.drew (.cells #[.int .i64 0,.bool false,.int .i64 0,.int .i64 0,.int .i64 0,.int .i64 0,.int .i64 0,.int .i64 0,.int .i64 0,.int .i64 0,.int .i64 0,.int .i64 0,.int .i64 0,.int .i64 0,.int .i64 0,.int .i64 0,.int .i64 0,.int .i64 0] 356)
   have hh:=hHeld.call kb
   clear kb
   go_simp
   refine hK.out _ _ hh (fun hHeld=>?_)
   clear hK K hh
   refine rd1 2 fun K hK=>?_
   simp only [gsb]
   go_simp
   refine (anwhere_calls p _).mono ?_
   rintro r w0 ⟨rfl,rfl⟩
   go_wp2_with fail
   refine hK.out _ _ hHeld (fun hHeld=>?_)
   clear hK K
   refine tky 4 (v:=.agg ka) rfl (yields_bld (by rfl) rfl (vals:=#[(0,.int .i64 p),(1,.agg xa)]) (by kernel_rfl) HBE.out) hHeld ?_
   simp only [Act.put]
   refine rd1 6 fun K hK=>?_
   simp only [gsb,gsa]
   rw [if_pos (by rfl)]
   refine wp_store_mid _ _ _ rfl _ _ ka rfl rfl (by rw [k18]; exact there_of hz) (by rw [infoEn,k18]) k1o ?_
   have hh2:=hHeld.put HA.out hp ka.toList
   refine hK.out _ _ hh2 (fun _=>?_)
   clear hK K
   refine wpAnyH_done (by kernel_rfl) ?_ _
   go_wp2_with fail
   go_meet
   case rel=>exact ⟨_,rfl,hp,hh2,setCells_whole hz (by rw [k18]; rfl)⟩
 case rest =>
  obtain ⟨kE,rfl,hE⟩:=hcut
  obtain ⟨t,d,ok,hlk,hok⟩:=HLK.out _ hE.out.2.1
  have HLO:Hid (_=_):=hlk
  have HOK:Hid (ok=true→_):=hok
  have HEE:Hid (_=_):=hE.out.2.2
  have d6:=cell_of hE.out.2.1.o 6 hw6
  have d7:=cell_of hE.out.2.1.o 7 hw7
  have p18:=pasA_size t d
  have p1o:=pasA_one t d
  obtain ⟨t1,t2,tb⟩:=new_pa wc (pasA t d) p18
  have T1:Hid (_=_):=t1
  have hlt:=heap_lt hE.out.2.2
  have FACTS:Hid (LoIn C π T F w wa ic xa _∧_∧_):=⟨hE.out.2.1.call tb,(tb.block _ hlt).trans hE.out.2.2,t2⟩
  have HL:Hid (w.heap.size + 1 + 1 + 1<kE):=hE.out.1
  have t17:=stC_size t
  have t1o:=stC_one t
  obtain ⟨ta,hta⟩:∃ ta,ta=stC t:=⟨_,rfl⟩
  rw [← hta] at t17 t1o
  have HTA:Hid (ta=stC t):=hta
  have hpt:=pasA_told t d
  have HPR:Hid (∀ (W:World) (q:Nat),W.heap[q]?=some (.cells (pasA t d) 358)→W.rangeAt q 0 ta.toList):=fun W q hW=>by rw [hta]; exact pas_range hW
  obtain ⟨pa,hpa⟩:∃ pa,pa=pasA t d:=⟨_,rfl⟩
  rw [← hpa] at HLO p18 p1o hpt FACTS HPR
  have hcase:(ok=true∧d=true)∨(ok=true∧d=false∧b=false)∨(ok=false∧b=true)∨(ok=false∧b=false)∨(ok=true∧d=false∧b=true):=by
   cases ok <;> cases d <;> cases b <;> simp
  have hlc:=heap_lt T1.out
  clear t1 t2 tb hlt hlk hok hta hpa hE HLK hlc
  rcases hcase with ⟨rfl,rfl⟩ | ⟨rfl,rfl,rfl⟩ | ⟨rfl,rfl⟩ | ⟨rfl,rfl⟩ | ⟨rfl,rfl,rfl⟩
  ·go_wp2_with (first
    | (refine wp_ldE rfl _ rfl rfl HEE.out k18 ?_)
    | (refine wp_look rfl rfl rfl rfl HLO.out ?_)
    | (refine wp_stP (P:=fun W=>LoIn C π T F w wa ic xa W∧W.heap[kE]?=some (.cells ka 356)∧W.heap[wc.heap.size]?=some (.cells pa 358)) rfl _ _ rfl rfl rfl (by exact T1.out) rfl p18 p1o FACTS.out ?_
       rintro w2 ⟨h2,_,hp2⟩
       change Hid (wpList _ _ _ _ _ _)))
   unfold Hid
   have HI2:Hid (LoIn C π T F w wa ic xa w2):=h2
   have HZ2:Hid (_=_):=h2.z
   have RNG:Hid (World.rangeAt _ _ _ _):=HPR.out _ _ hp2
   have c17:=cell_of hp2 17 hpt
   clear h2 hp2 d6 d7
   go_upto_if 32 with fail
   go_wp2_with (first
    | (refine wp_ldR rfl _ rfl rfl RNG.out t17 ?_)
    | (refine wp_st rfl _ _ rfl rfl rfl HZ2.out rfl t17 t1o ?_))
   have hr0:=setCells_whole HI2.out.z (d:=ta) (by rw [t17]; rfl)
   have HBf:=setCells_below (b:=w.heap.size + 1 + 1 + 1) (by omega) ta.toList 0 w2 _ (Below.refl w.heap.size _)
   refine bodyPost_ret (results_st Tryz.results156 _ _ rfl hr0 t17) rfl ?_
   obtain ⟨h1,h2⟩:=HOK.out (by trivial)
   subst h1
   unfold Post
   rw [← HTA.out]
   refine ⟨rfl,?_,AKeep.upon HA.out HI2.out.k HBf⟩
   have e:told π b F es=F:=by
    cases b
    ·rfl
    ·exact Sp.tell_keep (abs π) HI2.out.a.wfF (h2 (by trivial))
   rw [e]
   exact HA.out.upon HI2.out.a HBf
  ·go_wp2_with (first
    | (refine wp_ldE rfl _ rfl rfl HEE.out k18 ?_)
    | (refine wp_look rfl rfl rfl rfl HLO.out ?_)
    | (refine wp_stP (P:=fun W=>LoIn C π T F w wa ic xa W∧W.heap[kE]?=some (.cells ka 356)∧W.heap[wc.heap.size]?=some (.cells pa 358)) rfl _ _ rfl rfl rfl (by exact T1.out) rfl p18 p1o FACTS.out ?_
       rintro w2 ⟨h2,_,hp2⟩
       change Hid (wpList _ _ _ _ _ _)))
   unfold Hid
   have HI2:Hid (LoIn C π T F w wa ic xa w2):=h2
   have HZ2:Hid (_=_):=h2.z
   have RNG:Hid (World.rangeAt _ _ _ _):=HPR.out _ _ hp2
   have c17:=cell_of hp2 17 hpt
   have e7:=cell_of h2.o 7 hw7
   clear h2 hp2 d6 d7
   go_upto_if 32 with fail
   go_wp2_with (first
    | (refine wp_ldR rfl _ rfl rfl RNG.out t17 ?_)
    | (refine wp_st rfl _ _ rfl rfl rfl HZ2.out rfl t17 t1o ?_))
   have hr0:=setCells_whole HI2.out.z (d:=ta) (by rw [t17]; rfl)
   have HBf:=setCells_below (b:=w.heap.size + 1 + 1 + 1) (by omega) ta.toList 0 w2 _ (Below.refl w.heap.size _)
   refine bodyPost_ret (results_st Tryz.results156 _ _ rfl hr0 t17) rfl ?_
   obtain ⟨h1,h2⟩:=HOK.out (by trivial)
   subst h1
   unfold Post
   rw [← HTA.out]
   exact ⟨rfl,HA.out.upon HI2.out.a HBf,AKeep.upon HA.out HI2.out.k HBf⟩
  all_goals
   go_wp2_with (first
    | (refine wp_ldE rfl _ rfl rfl HEE.out k18 ?_)
    | (refine wp_look rfl rfl rfl rfl HLO.out ?_)
    | (refine wp_stP (P:=fun W=>LoIn C π T F w wa ic xa W∧W.heap[kE]?=some (.cells ka 356)∧W.heap[wc.heap.size]?=some (.cells pa 358)) rfl _ _ rfl rfl rfl (by exact T1.out) rfl p18 p1o FACTS.out ?_
       rintro w2 ⟨h2,e2,hp2⟩
       change Hid (wpList _ _ _ _ _ _)))
   unfold Hid
   have HI2:Hid (LoIn C π T F w wa ic xa w2):=h2
   have HO2:Hid (_=_):=h2.o
   have HS2:Hid (_=_):=h2.s
   have E2:Hid (_=_):=e2
   have c17:=cell_of hp2 17 hpt
   have e7:=cell_of h2.o 7 hw7
   have d0:=cell_of h2.c 0 hc0
   have d1:=cell_of h2.c 1 hc1
   have d2:=cell_of h2.c 2 hc2
   have d3:=cell_of h2.c 3 hc3
   have d4:=cell_of h2.c 4 hc4
   clear h2 hp2 d6 d7 e2
   go_upto_if 32 with fail
   go_wp2_with (first
    | (refine wp_ldW rfl _ rfl rfl (c:=wa) HO2.out hws ?_)
    | (refine wp_ld rfl _ rfl rfl (c:=xa) HS2.out x17 ?_))
   refine (HAR.out w2 HI2.out).mono ?_
   rintro r w3 ⟨rfl,h3,b3⟩
   obtain ⟨t1,t2,tb⟩:=one_new w3 ua r17
   have e3:=b3.mine HA.out (by have:=HL.out; omega) E2.out
   have l3:=heap_lt e3
   have h4:=h3.call tb
   have e4:=(tb.block _ l3).trans e3
   have E4:Hid (_=_):=e4
   have T4:Hid (_=_):=t1
   have T5:Hid (_=_):=t2
   have f6:=cell_of h4.o 6 hw6
   have f7:=cell_of h4.o 7 hw7
   obtain ⟨W',hput,h5,b5⟩:=HPT.out _ h4
   have HPU:Hid (_=_):=hput
   have t6:=b5.mine HA.out (by have:=HL.out; omega) t2
   have T6:Hid (_=_):=t6
   have HZ5:Hid (_=_):=h5.z
   have HI5:Hid (LoIn C π T _ w wa ic xa W'):=h5
   have hr5:Hid (_=_):=setCells_whole h5.z (d:=ua) (by rw [r17]; rfl)
   have HB5:Hid (Below w.heap.size W' _):=setCells_below (b:=w.heap.size + 1 + 1 + 1) (by omega) ua.toList 0 W' _ (Below.refl _ _)
   clear t1 t2 tb e3 h3 b3 h4 e4 hput h5 b5 t6 d0 d1 d2 d3 d4 c17 e7 HO2 HS2 E2 HLO HEE HPT HAR HI2 FACTS HPR
   go_wp2_with (first
    | (refine wp_st rfl _ _ rfl rfl rfl (by exact T4.out) rfl r17 r1o ?_)
    | (refine wp_ldE rfl _ rfl rfl (by exact E4.out) k18 ?_)
    | (refine wp_ld rfl _ rfl rfl (by exact T5.out) r17 ?_)
    | (refine wp_bld rfl rfl (by kernel_rfl) (HBP.out _) ?_)
    | (refine wp_mapPut rfl rfl rfl rfl rfl (by exact HPU.out) ?_
       change Hid (wpList _ _ _ _ _ _)))
   unfold Hid
   go_wp2_with (first
    | (refine wp_ld rfl _ rfl rfl T6.out r17 ?_)
    | (refine wp_st rfl _ _ rfl rfl rfl HZ5.out rfl r17 r1o ?_))
   refine bodyPost_ret (results_st Tryz.results156 _ _ rfl hr5.out r17) rfl ?_
   unfold Post
   rw [← HUA.out]
   exact ⟨rfl,HA.out.upon HI5.out.a HB5.out,AKeep.upon HA.out HI5.out.k HB5.out⟩
end WC
end Go.Proofs.YtiopfihjmkfdmaaGreatDoor
namespace Go.Proofs.YtiopfihjmkfdmaaGreatDoor
namespace WC
open Go.RowKit
set_option maxRecDepth 100000
set_option maxHeartbeats 4000000
structure ReaAt (wa:Array Value) (c0 c1:Value) (k:Nat) (W:World):Prop where
 o:W.heap[k]?=some (.cells wa 200)
 c:W.heap[k + 1 + 1 + 1]?=some (.cells #[c0,c1] 283)
theorem stmt_read (p:Int) (k:Nat) (hk:k<8) (C:Cx) (π:Par) (T:Tab) (F:Fd) (b:Bool) (w:World) (e:Fin 8→Sp.Cg) (h:AnAt C π T F w) :
  Calls Tryz.prog 112 #[.agg (wk C b),.iface 283 (.agg #[.int .i64 p,.int .i64 (k:Nat)]),.agg (stC (some e))] w (Post C π T F b w [] (show ST from some (Sp.setV (Dm π) e k vWhole))):=by
 have h1:=ts_2_1 (.agg #[.int .i64 p,.int .i64 (k:Nat)])
 have h2:=ts_2_2 (.agg #[.int .i64 p,.int .i64 (k:Nat)])
 obtain ⟨k0,k1,k2,k3,kb⟩:=laid4b (w:=w) (o1:=.cells (wk C b) 200) (o2:=.cells (stC (some e)) 203) (o3:=.cells #[.bool false,.int .i64 0,.int .i64 0,.int .i64 0,.int .i64 0,.int .i64 0,.int .i64 0,.int .i64 0,.int .i64 0,.int .i64 0,.int .i64 0,.int .i64 0,.int .i64 0,.int .i64 0,.int .i64 0,.int .i64 0,.int .i64 0] 203) (o4:=.cells #[.int .i64 p,.int .i64 (k:Nat)] 283) (Below.refl _ _)
 have hk':(k:Int)<8:=by omega
 have hw0:=wk_zero C b
 obtain ⟨x0,x1⟩:=stC_get e ⟨k,hk⟩
 have hst:=stC_set (π:=π) e k hk vWhole
 have u17:=stC_size (show ST from some (Sp.setV (Dm π) e k vWhole))
 have u1o:=stC_one (show ST from some (Sp.setV (Dm π) e k vWhole))
 have HD:Hid (∀ W,AnAt C π T F W→Calls _ _ _ W _):=fun W hW=>dWhole hW.does
 generalize e ⟨k,hk⟩=x at *
 simp only at x0 x1
 generalize wk C b=wa at *
 generalize stC (some e)=xa at *
 unfold Post
 generalize stC (show ST from some (Sp.setV (Dm π) e k vWhole))=uu at *
 generalize (vWhole:Sp.Cg)=v at *
 have HST:Hid (_=uu):=hst
 have K1:Hid (_=_):=k1
 have K2:Hid (_=_):=k2
 have H0:Hid (ReaAt wa (.int .i64 p) (.int .i64 (k:Nat)) w.heap.size ((((w.alloc (.cells wa 200)).alloc (.cells xa 203)).alloc (.cells #[.bool false,.int .i64 0,.int .i64 0,.int .i64 0,.int .i64 0,.int .i64 0,.int .i64 0,.int .i64 0,.int .i64 0,.int .i64 0,.int .i64 0,.int .i64 0,.int .i64 0,.int .i64 0,.int .i64 0,.int .i64 0,.int .i64 0] 203)).alloc (.cells #[.int .i64 p,.int .i64 (k:Nat)] 283)).drew):=⟨k0,k3⟩
 have HB:Hid (Below w.heap.size w ((((w.alloc (.cells wa 200)).alloc (.cells xa 203)).alloc (.cells #[.bool false,.int .i64 0,.int .i64 0,.int .i64 0,.int .i64 0,.int .i64 0,.int .i64 0,.int .i64 0,.int .i64 0,.int .i64 0,.int .i64 0,.int .i64 0,.int .i64 0,.int .i64 0,.int .i64 0,.int .i64 0,.int .i64 0] 203)).alloc (.cells #[.int .i64 p,.int .i64 (k:Nat)] 283)).drew):=kb.drew
 have HA:Hid (AnAt C π T F w):=h
 have l1:w.heap.size≤w.heap.size + 1:=by omega
 have l2:w.heap.size≤w.heap.size + 1 + 1:=by omega
 clear h k0 k1 k2 k3 kb hst
 go_enter Tryz.func112,Tryz.ntmps112
 go_wp2_with fail
 generalize (((w.alloc (.cells wa 200)).alloc (.cells xa 203)).alloc (.cells #[.bool false,.int .i64 0,.int .i64 0,.int .i64 0,.int .i64 0,.int .i64 0,.int .i64 0,.int .i64 0,.int .i64 0,.int .i64 0,.int .i64 0,.int .i64 0,.int .i64 0,.int .i64 0,.int .i64 0,.int .i64 0,.int .i64 0] 203)).alloc (.cells #[.int .i64 p,.int .i64 (k:Nat)] 283)=W at *
 refine wp_region_held_drew (S:=fun w':World=>ReaAt wa (.int .i64 p) (.int .i64 (k:Nat)) w.heap.size w') (by kernel_rfl) H0.out (fun hHeld=>?_)
 refine tk 0 (.pointer (some ⟨w.heap.size + 1 + 1 + 1,1,none⟩)) rfl (fun w' h=>by go_simp) hHeld ?_
 simp only [Act.put]
 refine tk 1 (.int .i64 (k:Nat)) rfl (fun w' h=>by have d:=cell_of h.c 1 (v:=.int .i64 (k:Nat)) rfl; go_simp) hHeld ?_
 simp only [Act.put]
 refine tk 2 (.pointer (some ⟨w.heap.size,0,none⟩)) rfl (fun w' h=>by go_simp) hHeld ?_
 simp only [Act.put]
 refine tk 3 (.iface 128 C.dv) rfl (fun w' h=>by have d:=cell_of h.o 0 hw0; go_simp) hHeld ?_
 simp only [Act.put]
 refine tk 5 (.pointer (some ⟨w.heap.size + 1,1,none⟩)) rfl (fun w' h=>by go_simp) hHeld ?_
 simp only [Act.put]
 refine rd1 4 fun K hK=>?_
 simp only [gsb,gsa]
 go_simp
 refine (HD.out _ (HA.out.call HB.out)).mono ?_
 rintro r w1 ⟨rfl,b1⟩
 go_wp2_with fail
 have HX1:Hid (w1.heap[w.heap.size + 1]?=some (.cells xa 203)):=(b1.block _ (heap_lt (show W.drew.heap[w.heap.size + 1]?=_ from K1.out))).trans K1.out
 have HZ1:Hid (w1.heap[w.heap.size + 1 + 1]?=some (.cells noneI 203)):=(b1.block _ (heap_lt (show W.drew.heap[w.heap.size + 1 + 1]?=_ from K2.out))).trans K2.out
 have HB1:Hid (Below w.heap.size w w1):=HB.out.trans (b1.mono HB.out.size)
 have hs1:ReaAt wa (.int .i64 p) (.int .i64 (k:Nat)) w.heap.size w1:=⟨(b1.block _ (heap_lt hHeld.o)).trans hHeld.o,(b1.block _ (heap_lt hHeld.c)).trans hHeld.c⟩
 refine hK.out _ _ hs1 (fun hHeld=>?_)
 clear hK K hs1 b1
 refine tk 6 (.pointer (some ⟨w.heap.size + 1,1 + k * 2,none⟩)) rfl (fun w' h=>by go_simp) hHeld ?_
 simp only [Act.put]
 have y0:=cell_of HX1.out _ x0
 have y1:=cell_of HX1.out _ x1
 have f0:=frozen_of HX1.out (1 + k * 2)
 have f1:=frozen_of HX1.out (1 + k * 2 + 1)
 refine rd1 7 fun K hK=>?_
 simp only [gsb,gsa]
 go_simp
 have hx3:=heap_setCell_at (heap_setCell_at HX1.out (1 + k * 2) (.int .i64 ((v.m:Nat):Int))) (1 + k * 2 + 1) (.int .i64 v.r)
 rw [HST.out] at hx3
 have o3:((w1.setCell ⟨w.heap.size + 1,1 + k * 2,none⟩ (.int .i64 ((v.m:Nat):Int))).setCell ⟨w.heap.size + 1,1 + k * 2 + 1,none⟩ (.int .i64 v.r)).heap[w.heap.size]?=some (.cells wa 200):=by
  rw [Below.heap_setCell _ _ _ _ (show w.heap.size ≠ (⟨w.heap.size + 1,1 + k * 2 + 1,none⟩:Addr).block from by show w.heap.size ≠ w.heap.size + 1; omega),Below.heap_setCell _ _ _ _ (show w.heap.size ≠ (⟨w.heap.size + 1,1 + k * 2,none⟩:Addr).block from by show w.heap.size ≠ w.heap.size + 1; omega)]
  exact hHeld.o
 have c3:((w1.setCell ⟨w.heap.size + 1,1 + k * 2,none⟩ (.int .i64 ((v.m:Nat):Int))).setCell ⟨w.heap.size + 1,1 + k * 2 + 1,none⟩ (.int .i64 v.r)).heap[w.heap.size + 1 + 1 + 1]?=some (.cells #[.int .i64 p,.int .i64 (k:Nat)] 283):=by
  rw [Below.heap_setCell _ _ _ _ (show w.heap.size + 1 + 1 + 1 ≠ (⟨w.heap.size + 1,1 + k * 2 + 1,none⟩:Addr).block from by show w.heap.size + 1 + 1 + 1 ≠ w.heap.size + 1; omega),Below.heap_setCell _ _ _ _ (show w.heap.size + 1 + 1 + 1 ≠ (⟨w.heap.size + 1,1 + k * 2,none⟩:Addr).block from by show w.heap.size + 1 + 1 + 1 ≠ w.heap.size + 1; omega)]
  exact hHeld.c
 have z3:((w1.setCell ⟨w.heap.size + 1,1 + k * 2,none⟩ (.int .i64 ((v.m:Nat):Int))).setCell ⟨w.heap.size + 1,1 + k * 2 + 1,none⟩ (.int .i64 v.r)).heap[w.heap.size + 1 + 1]?=some (.cells noneI 203):=by
  rw [Below.heap_setCell _ _ _ _ (show w.heap.size + 1 + 1 ≠ (⟨w.heap.size + 1,1 + k * 2 + 1,none⟩:Addr).block from by show w.heap.size + 1 + 1 ≠ w.heap.size + 1; omega),Below.heap_setCell _ _ _ _ (show w.heap.size + 1 + 1 ≠ (⟨w.heap.size + 1,1 + k * 2,none⟩:Addr).block from by show w.heap.size + 1 + 1 ≠ w.heap.size + 1; omega)]
  exact HZ1.out
 have HX3:Hid (_=_):=hx3
 have HZ3:Hid (_=_):=z3
 have hr0:Hid (_=_):=setCells_whole z3 (d:=uu) (by rw [u17]; rfl)
 have HBf:Hid (Below w.heap.size w _):=setCells_below (b:=w.heap.size + 1 + 1) l2 uu.toList 0 w _ ((HB1.out.setCell (p:=⟨w.heap.size + 1,1 + k * 2,none⟩) l1 (.int .i64 ((v.m:Nat):Int))).setCell (p:=⟨w.heap.size + 1,1 + k * 2 + 1,none⟩) l1 (.int .i64 v.r))
 refine hK.out _ _ ⟨o3,c3⟩ (fun _=>?_)
 clear hK K hx3 o3 c3 z3 y0 y1 f0 f1 hHeld
 refine wpAnyH_done (by kernel_rfl) ?_ _
 generalize (w1.setCell ⟨w.heap.size + 1,1 + k * 2,none⟩ (.int .i64 ((v.m:Nat):Int))).setCell ⟨w.heap.size + 1,1 + k * 2 + 1,none⟩ (.int .i64 v.r)=w3 at *
 go_wp2_with (first
  | (refine wp_ld rfl _ rfl rfl HX3.out u17 ?_)
  | (refine wp_st rfl _ _ rfl rfl rfl HZ3.out rfl u17 u1o ?_))
 refine bodyPost_ret (results_st Tryz.results112 _ _ rfl hr0.out u17) rfl ⟨rfl,by rw [told_nil]; exact HA.out.call HBf.out,AKeep.of_below HBf.out HA.out.le⟩
end WC
end Go.Proofs.YtiopfihjmkfdmaaGreatDoor
