import Derived.Test.YtiopfihjmkfdmaaGreatDoorX35
import Derived.Deep.Cut
import Derived.DeepKeys3
namespace Go.Proofs.YtiopfihjmkfdmaaGreatDoor
namespace WC
open Go.RowKit
set_option maxRecDepth 100000
set_option maxHeartbeats 4000000
def BlkAt (C:Cx) (π:Par) (T:Tab) (F:Fd) (b:Bool) (w:World) (v:Value) (s:ST) (es:List TelT) (u:ST):Prop :=
 ∀ W,AKeep C w W→AnAt C π T F W→Calls Tryz.prog 78 #[.agg (wk C b),v,.agg (stC s)] W (Post C π T F b W es u)
structure BraAt (wa u1 u2:Array Value) (ic:Array Value) (k n:Nat) (W:World):Prop where
 o:W.heap[k]?=some (.cells wa 200)
 c:W.heap[k + 1]?=some (.cells ic 290)
 x:W.heap[n]?=some (.cells u1 203)
 y:W.heap[n + 1]?=some (.cells u2 203)
 z:∃ d,d.size=17∧W.heap[k + 1 + 1 + 1]?=some (.cells d 203)
theorem BraAt.keep {wa u1 u2 ic:Array Value} {n:Nat} {C:Cx} {π:Par} {T:Tab} {F:Fd} {w W W':World} (h:BraAt wa u1 u2 ic w.heap.size n W) (h0:AnAt C π T F w) (hn:w.heap.size≤n) (b:AKeep C W W'):BraAt wa u1 u2 ic w.heap.size n W':=by
 obtain ⟨d,hd,hz⟩:=h.z
 exact ⟨b.mine h0 (Nat.le_refl _) h.o,b.mine h0 (by omega) h.c,b.mine h0 hn h.x,b.mine h0 (by omega) h.y,⟨d,hd,b.mine h0 (by omega) hz⟩⟩
theorem BraAt.call {wa u1 u2 ic:Array Value} {k n:Nat} {W W':World} (h:BraAt wa u1 u2 ic k n W) (b:Below W.heap.size W W'):BraAt wa u1 u2 ic k n W':=by
 obtain ⟨d,hd,hz⟩:=h.z
 exact ⟨(b.block _ (heap_lt h.o)).trans h.o,(b.block _ (heap_lt h.c)).trans h.c,(b.block _ (heap_lt h.x)).trans h.x,(b.block _ (heap_lt h.y)).trans h.y,⟨d,hd,(b.block _ (heap_lt hz)).trans hz⟩⟩
theorem branch_calls (p:Int) (k:Nat) (tl:TypeId) (ul:Value) (tr:TypeId) (ur:Value) (av:Option Addr) (nv cv:Nat) (ae:Option Addr) (ne ce:Nat) (hb:Bool) (C:Cx) (π:Par) (T:Tab) (F:Fd) (b:Bool) (w:World) (e:Fin 8→Sp.Cg) (es es1 es2:List TelT) (s1 s2 v1 v2 u:ST) (h:AnAt C π T F w)
  (hs:CondsAt C π T F b k (.iface tl ul) (.iface tr ur) (some e) es s1 s2) (h1:BlkAt C π T (told π b F es) b w (.slice av nv cv) s1 es1 v1) (h2:BlkAt C π T (told π b (told π b F es) es1) b w (.slice ae ne ce) s2 es2 v2) (w1f:Sp.Wf (Kr π) v1) (w2f:Sp.Wf (Kr π) v2) (hu:Sp.jn (Dm π) v1 v2=u) :
  Calls Tryz.prog 155 #[.agg (wk C b),.agg #[.int .i64 p,.int .i64 (k:Nat),.iface tl ul,.iface tr ur,.slice av nv cv,.slice ae ne ce,.bool hb],.agg (stC (some e))] w (Post C π T F b w (es ++ es1 ++ es2) u):=by
 obtain ⟨k0,k1,k2,k3,kb⟩:=laid4b (w:=w) (o1:=.cells (wk C b) 200) (o2:=.cells #[.int .i64 p,.int .i64 (k:Nat),.iface tl ul,.iface tr ur,.slice av nv cv,.slice ae ne ce,.bool hb] 290) (o3:=.cells (stC (some e)) 203) (o4:=.cells #[.bool false,.int .i64 0,.int .i64 0,.int .i64 0,.int .i64 0,.int .i64 0,.int .i64 0,.int .i64 0,.int .i64 0,.int .i64 0,.int .i64 0,.int .i64 0,.int .i64 0,.int .i64 0,.int .i64 0,.int .i64 0,.int .i64 0] 203) (Below.refl _ _)
 have HW:=hs _ (h.call kb)
 have hws:=wk_size C b
 have hx17:=stC_size (some e)
 have a17:=stC_size s1
 have a1o:=stC_one s1
 have b17:=stC_size s2
 have b1o:=stC_one s2
 have u17:=stC_size u
 have u1o:=stC_one u
 have H1:Hid (∀ W,AKeep C w W→AnAt C π T (told π b F es) W→Calls _ _ _ W _):=h1
 have H2:Hid (∀ W,AKeep C w W→AnAt C π T (told π b (told π b F es) es1) W→Calls _ _ _ W _):=h2
 have HJ:Hid (∀ W,Does C.base π C.dv W→Calls Tryz.prog 113 #[.agg (wk C b),.agg (stC v1),.agg (stC v2)] W fun e w'=>e=.returned (.agg (stC u))∧Below W.heap.size W w'):=fun W hd=>jn_calls (B:=C.base) (π:=π) C.dv C.dom C.delay C.narrow C.unroll C.th C.m _ v1 v2 u W hd hu w1f w2f
 unfold CondPost at HW
 unfold Post at H1 H2
 generalize wk C b=wa at *
 generalize stC (some e)=xa at *
 generalize stC s1=q1 at *
 generalize stC s2=q2 at *
 generalize stC v1=r1 at *
 generalize stC v2=r2 at *
 generalize huu:stC u=uu at *
 have HUU:Hid (_=uu):=huu
 have K0:Hid (_=_):=k0
 have K1:Hid (_=_):=k1
 have K2:Hid (_=_):=k2
 have K3:Hid (_=_):=k3
 have c2:=cell_of k1 1 (v:=.int .i64 (k:Nat)) rfl
 have c3:=cell_of k1 2 (v:=.iface tl ul) rfl
 have c4:=cell_of k1 3 (v:=.iface tr ur) rfl
 have HB:Hid (Below w.heap.size w _):=kb
 have HA:Hid (AnAt C π T F w):=h
 have l1:w.heap.size≤w.heap.size + 1:=by omega
 have l3:w.heap.size≤w.heap.size + 1 + 1 + 1:=by omega
 clear h hs k0 k1 k2 k3 kb huu h1 h2 hu w1f w2f
 go_enter Tryz.func155,Tryz.ntmps155
 go_wp2_with (first
  | (refine wp_ldW rfl _ rfl rfl K0.out hws ?_)
  | (refine wp_ld rfl _ rfl rfl K2.out hx17 ?_))
 refine HW.mono ?_
 rintro r w1 ⟨rfl,a1,b1⟩
 have hsz:w.heap.size≤w1.heap.size:=Nat.le_trans HB.out.size b1.below.size
 have hk3:w.heap.size + 1 + 1 + 1<w1.heap.size:=Nat.lt_of_lt_of_le (heap_lt K3.out) b1.below.size
 obtain ⟨t1,t2,t3,t4,tb⟩:=two_new w1 q1 q2 a17 b17
 have HT1:Hid (_=_):=t1
 have HT2:Hid (_=_):=t2
 have ho4:=(tb.block _ (heap_lt (b1.mine HA.out (Nat.le_refl _) K0.out))).trans (b1.mine HA.out (Nat.le_refl _) K0.out)
 have hc4:=(tb.block _ (heap_lt (b1.mine HA.out l1 K1.out))).trans (b1.mine HA.out l1 K1.out)
 have hz4:=(tb.block _ (heap_lt (b1.mine HA.out l3 K3.out))).trans (b1.mine HA.out l3 K3.out)
 have H0:Hid (BraAt wa q1 q2 #[.int .i64 p,.int .i64 (k:Nat),.iface tl ul,.iface tr ur,.slice av nv cv,.slice ae ne ce,.bool hb] w.heap.size w1.heap.size ((((w1.alloc (.cells #[.bool false,.int .i64 0,.int .i64 0,.int .i64 0,.int .i64 0,.int .i64 0,.int .i64 0,.int .i64 0,.int .i64 0,.int .i64 0,.int .i64 0,.int .i64 0,.int .i64 0,.int .i64 0,.int .i64 0,.int .i64 0,.int .i64 0] 203)).alloc (.cells #[.bool false,.int .i64 0,.int .i64 0,.int .i64 0,.int .i64 0,.int .i64 0,.int .i64 0,.int .i64 0,.int .i64 0,.int .i64 0,.int .i64 0,.int .i64 0,.int .i64 0,.int .i64 0,.int .i64 0,.int .i64 0,.int .i64 0] 203)).setCells w1.heap.size 0 q1.toList).setCells (w1.heap.size + 1) 0 q2.toList).drew):=⟨ho4,hc4,t3,t4,⟨_,rfl,hz4⟩⟩
 have HA4:Hid (AnAt C π T (told π b F es) ((((w1.alloc (.cells #[.bool false,.int .i64 0,.int .i64 0,.int .i64 0,.int .i64 0,.int .i64 0,.int .i64 0,.int .i64 0,.int .i64 0,.int .i64 0,.int .i64 0,.int .i64 0,.int .i64 0,.int .i64 0,.int .i64 0,.int .i64 0,.int .i64 0] 203)).alloc (.cells #[.bool false,.int .i64 0,.int .i64 0,.int .i64 0,.int .i64 0,.int .i64 0,.int .i64 0,.int .i64 0,.int .i64 0,.int .i64 0,.int .i64 0,.int .i64 0,.int .i64 0,.int .i64 0,.int .i64 0,.int .i64 0,.int .i64 0] 203)).setCells w1.heap.size 0 q1.toList).setCells (w1.heap.size + 1) 0 q2.toList).drew):=HA.out.upon a1 (tb.mono hsz).drew
 have HK4:Hid (AKeep C w ((((w1.alloc (.cells #[.bool false,.int .i64 0,.int .i64 0,.int .i64 0,.int .i64 0,.int .i64 0,.int .i64 0,.int .i64 0,.int .i64 0,.int .i64 0,.int .i64 0,.int .i64 0,.int .i64 0,.int .i64 0,.int .i64 0,.int .i64 0,.int .i64 0] 203)).alloc (.cells #[.bool false,.int .i64 0,.int .i64 0,.int .i64 0,.int .i64 0,.int .i64 0,.int .i64 0,.int .i64 0,.int .i64 0,.int .i64 0,.int .i64 0,.int .i64 0,.int .i64 0,.int .i64 0,.int .i64 0,.int .i64 0,.int .i64 0] 203)).setCells w1.heap.size 0 q1.toList).setCells (w1.heap.size + 1) 0 q2.toList).drew):=AKeep.upon HA.out ((AKeep.of_below HB.out HA.out.le).trans b1) (tb.mono hsz).drew
 clear t1 t2 t3 t4 tb a1 b1 HW ho4 hc4 hz4
 go_wp2_with (first
  | (refine wp_st rfl _ _ rfl rfl (c:=#[.bool false,.int .i64 0,.int .i64 0,.int .i64 0,.int .i64 0,.int .i64 0,.int .i64 0,.int .i64 0,.int .i64 0,.int .i64 0,.int .i64 0,.int .i64 0,.int .i64 0,.int .i64 0,.int .i64 0,.int .i64 0,.int .i64 0]) (d:=q1) rfl (by exact HT1.out) rfl a17 a1o ?_)
  | (refine wp_st rfl _ _ rfl rfl (c:=#[.bool false,.int .i64 0,.int .i64 0,.int .i64 0,.int .i64 0,.int .i64 0,.int .i64 0,.int .i64 0,.int .i64 0,.int .i64 0,.int .i64 0,.int .i64 0,.int .i64 0,.int .i64 0,.int .i64 0,.int .i64 0,.int .i64 0]) (d:=q2) rfl (by exact HT2.out) rfl b17 b1o ?_))
 generalize ((((w1.alloc (.cells #[.bool false,.int .i64 0,.int .i64 0,.int .i64 0,.int .i64 0,.int .i64 0,.int .i64 0,.int .i64 0,.int .i64 0,.int .i64 0,.int .i64 0,.int .i64 0,.int .i64 0,.int .i64 0,.int .i64 0,.int .i64 0,.int .i64 0] 203)).alloc (.cells #[.bool false,.int .i64 0,.int .i64 0,.int .i64 0,.int .i64 0,.int .i64 0,.int .i64 0,.int .i64 0,.int .i64 0,.int .i64 0,.int .i64 0,.int .i64 0,.int .i64 0,.int .i64 0,.int .i64 0,.int .i64 0,.int .i64 0] 203)).setCells w1.heap.size 0 q1.toList).setCells (w1.heap.size + 1) 0 q2.toList)=w4 at *
 refine wp_region_held_drew (S:=fun w':World=>BraAt wa q1 q2 #[.int .i64 p,.int .i64 (k:Nat),.iface tl ul,.iface tr ur,.slice av nv cv,.slice ae ne ce,.bool hb] w.heap.size w1.heap.size w') (by kernel_rfl) H0.out (fun hHeld=>?_)
 refine tky 0 rfl (yieldsIf_load_mid (by rfl) _ _ rfl _ _ rfl (wa).toList _ (fun w' h=>range_of h.o) Tryz.underlying200 rfl (by rw [infoWk,Array.length_toList,hws])) hHeld ?_
 simp only [Act.put]
 refine tky 1 rfl (yieldsIf_load_mid (by rfl) _ _ rfl _ _ rfl (wa).toList _ (fun w' h=>range_of h.o) Tryz.underlying200 rfl (by rw [infoWk,Array.length_toList,hws])) hHeld ?_
 simp only [Act.put]
 refine tky 6 rfl (yieldsIf_load_mid (by rfl) _ _ rfl _ _ rfl (wa).toList _ (fun w' h=>range_of h.o) Tryz.underlying200 rfl (by rw [infoWk,Array.length_toList,hws])) hHeld ?_
 simp only [Act.put]
 refine tky 4 rfl (yieldsIf_load_mid (by rfl) _ _ rfl _ _ rfl (q1).toList _ (fun w' h=>range_of h.x) Tryz.underlying203 rfl (by rw [infoSt,Array.length_toList,a17])) hHeld ?_
 simp only [Act.put]
 refine tky 9 rfl (yieldsIf_load_mid (by rfl) _ _ rfl _ _ rfl (q2).toList _ (fun w' h=>range_of h.y) Tryz.underlying203 rfl (by rw [infoSt,Array.length_toList,b17])) hHeld ?_
 simp only [Act.put]
 refine tk 2 (.pointer (some ⟨w.heap.size + 1,4,none⟩)) rfl (fun w' h=>by go_simp) hHeld ?_
 simp only [Act.put]
 refine tk 3 (.slice av nv cv) rfl (fun w' h=>by have d:=cell_of h.c 4 (v:=.slice av nv cv) rfl; go_simp) hHeld ?_
 simp only [Act.put]
 refine tk 7 (.pointer (some ⟨w.heap.size + 1,5,none⟩)) rfl (fun w' h=>by go_simp) hHeld ?_
 simp only [Act.put]
 refine tk 8 (.slice ae ne ce) rfl (fun w' h=>by have d:=cell_of h.c 5 (v:=.slice ae ne ce) rfl; go_simp) hHeld ?_
 simp only [Act.put]
 refine rd1 5 fun K hK=>?_
 simp only [gsb,gsa,Array.toArray_toList]
 go_simp
 refine (H1.out _ HK4.out HA4.out).mono ?_
 rintro r w5 ⟨rfl,a5,b5⟩
 go_wp2_with fail
 have HA5:Hid (AnAt C π T (told π b (told π b F es) es1) w5):=a5
 have HK5:Hid (AKeep C w w5):=HK4.out.trans b5
 have hs5:=hHeld.keep HA.out hsz b5
 refine hK.out _ _ hs5 (fun hHeld=>?_)
 clear hK K hs5 a5 b5
 refine rd1 10 fun K hK=>?_
 simp only [gsb]
 go_simp
 refine (H2.out _ HK5.out HA5.out).mono ?_
 rintro r w6 ⟨rfl,a6,b6⟩
 go_wp2_with fail
 have HA6:Hid (AnAt C π T (told π b (told π b (told π b F es) es1) es2) w6):=a6
 have HK6:Hid (AKeep C w w6):=HK5.out.trans b6
 have hs6:=hHeld.keep HA.out hsz b6
 refine hK.out _ _ hs6 (fun hHeld=>?_)
 clear hK K hs6 a6 b6
 refine rd1 11 fun K hK=>?_
 simp only [gsb]
 go_simp
 refine (HJ.out _ HA6.out.does).mono ?_
 rintro r w7 ⟨rfl,b7⟩
 go_wp2_with fail
 have HA7:Hid (AnAt C π T (told π b (told π b (told π b F es) es1) es2) w7):=HA6.out.call b7
 have HK7:Hid (AKeep C w w7):=HK6.out.more b7 HA.out.le
 have hs7:=hHeld.call b7
 refine hK.out _ _ hs7 (fun hHeld=>?_)
 clear hK K hs7 b7
 obtain ⟨d,hd,hz⟩:=hHeld.z
 have hr0:Hid (_=_):=setCells_whole hz (d:=uu) (by omega)
 have HBf:Hid (Below w.heap.size w7 _):=setCells_below (b:=w.heap.size + 1 + 1 + 1) l3 uu.toList 0 w7 _ (Below.refl _ _)
 refine rd1 12 fun K hK=>?_
 simp only [gsb]
 rw [if_pos (by rfl)]
 refine wr_st _ _ rfl rfl rfl (by rw [← hd]; exact there_of hz) u17 u1o ?_
 refine hK.out _ _ ⟨(setCells_other _ _ _ _ (by omega)).trans hHeld.o,(setCells_other _ _ _ _ (by omega)).trans hHeld.c,(setCells_other _ _ _ _ (by omega)).trans hHeld.x,(setCells_other _ _ _ _ (by omega)).trans hHeld.y,⟨uu,u17,hr0.out⟩⟩ (fun _=>?_)
 clear hK K hHeld hz
 refine wpAnyH_done (by kernel_rfl) ?_ _
 go_wp2_with fail
 refine bodyPost_ret (results_st Tryz.results155 _ _ rfl hr0.out u17) rfl ⟨by rw [HUU.out],by rw [told_append,told_append]; exact HA.out.upon HA7.out HBf.out,AKeep.upon HA.out HK7.out HBf.out⟩
end WC
end Go.Proofs.YtiopfihjmkfdmaaGreatDoor
namespace Go.Proofs.YtiopfihjmkfdmaaGreatDoor
namespace WC
open Go.RowKit
set_option maxRecDepth 100000
set_option maxHeartbeats 4000000
structure CauAt (wq ic wa sa:Array Value) (kq ko kw ks:Nat) (W:World):Prop where
 q:W.heap[kq]?=some (.cells wq 200)
 c:W.heap[ko]?=some (.cells ic 293)
 o:W.heap[kw]?=some (.cells wa 200)
 s:W.heap[ks]?=some (.cells sa 203)
theorem CauAt.call {wq ic wa sa:Array Value} {kq ko kw ks:Nat} {W W':World} (h:CauAt wq ic wa sa kq ko kw ks W) (b:Below W.heap.size W W'):CauAt wq ic wa sa kq ko kw ks W' :=
 ⟨(b.block _ (heap_lt h.q)).trans h.q,(b.block _ (heap_lt h.c)).trans h.c,(b.block _ (heap_lt h.o)).trans h.o,(b.block _ (heap_lt h.s)).trans h.s⟩
structure CauIn (n kq ko kw ks:Nat):Prop where
 q:n≤kq
 c:n≤ko
 o:n≤kw
 s:n≤ks
theorem CauAt.keep {wq ic wa sa:Array Value} {kq ko kw ks:Nat} {C:Cx} {π:Par} {T:Tab} {F:Fd} {w0 W W':World} (h:CauAt wq ic wa sa kq ko kw ks W) (h0:AnAt C π T F w0) (hn:CauIn w0.heap.size kq ko kw ks) (b:AKeep C W W'):CauAt wq ic wa sa kq ko kw ks W' :=
 ⟨b.mine h0 hn.q h.q,b.mine h0 hn.c h.c,b.mine h0 hn.o h.o,b.mine h0 hn.s h.s⟩
theorem CauAt.put {wq ic wa sa:Array Value} {kq ko kw ks:Nat} {W:World} (h:CauAt wq ic wa sa kq ko kw ks W) {p:Nat} (hp:kq<p∧ko<p∧kw<p∧ks<p) (l:List Value):CauAt wq ic wa sa kq ko kw ks (W.setCells p 0 l) :=
 ⟨(setCells_other _ _ _ _ (by omega)).trans h.q,(setCells_other _ _ _ _ (by omega)).trans h.c,(setCells_other _ _ _ _ (by omega)).trans h.o,(setCells_other _ _ _ _ (by omega)).trans h.s⟩
abbrev whA (p:Int) (k:Nat) (tl:TypeId) (ul:Value) (tr:TypeId) (ur:Value) (av:Option Addr) (nv cv:Nat):Array Value:=#[.int .i64 p,.int .i64 (k:Nat),.iface tl ul,.iface tr ur,.slice av nv cv]
theorem next_calls (p:Int) (k:Nat) (tl:TypeId) (ul:Value) (tr:TypeId) (ur:Value) (av:Option Addr) (nv cv:Nat) (C:Cx) (π:Par) (T:Tab) (F F0:Fd) (b:Bool) (w0 w:World) (kq ko kw ks:Nat) (s i:ST) (h0:AnAt C π T F0 w0) (hn:CauIn w0.heap.size kq ko kw ks) (h:AnAt C π T F w) (hc:CauAt (wk C false) (whA p k tl ul tr ur av nv cv) (wk C b) (stC s) kq ko kw ks w) (es1 es2:List TelT) (s1 s2 v u:ST)
  (hs:CondsAt C π T F false k (.iface tl ul) (.iface tr ur) i es1 s1 s2) (h1:BlkAt C π T F false w (.slice av nv cv) s1 es2 v) (wsf:Sp.Wf (Kr π) s) (wvf:Sp.Wf (Kr π) v) (hu:Sp.jn (Dm π) s v=u) :
  Calls Tryz.prog 242 #[.agg (stC i),.pointer (some ⟨kq,0,none⟩),.pointer (some ⟨ko,0,none⟩),.pointer (some ⟨kw,0,none⟩),.pointer (some ⟨ks,0,none⟩)] w fun e w'=>e=.returned (.agg (stC u))∧AnAt C π T F w'∧AKeep C w w':=by
 obtain ⟨k0,k1,kb⟩:=laid2b (w:=w) (o1:=.cells (stC i) 203) (o2:=.cells #[.bool false,.int .i64 0,.int .i64 0,.int .i64 0,.int .i64 0,.int .i64 0,.int .i64 0,.int .i64 0,.int .i64 0,.int .i64 0,.int .i64 0,.int .i64 0,.int .i64 0,.int .i64 0,.int .i64 0,.int .i64 0,.int .i64 0] 203) (Below.refl _ _)
 have HW:=hs _ (h.call kb)
 have hws:=wk_size C b
 have hwq:=wk_size C false
 have hx17:=stC_size i
 have a17:=stC_size s1
 have a1o:=stC_one s1
 have b17:=stC_size s2
 have b1o:=stC_one s2
 have s17:=stC_size s
 have u17:=stC_size u
 have u1o:=stC_one u
 have H1:Hid (∀ W,AKeep C w W→AnAt C π T F W→Calls _ _ _ W _):=h1
 have HJ:Hid (∀ W,Does C.base π C.dv W→Calls Tryz.prog 113 #[.agg (wk C b),.agg (stC s),.agg (stC v)] W fun e w'=>e=.returned (.agg (stC u))∧Below W.heap.size W w'):=fun W hd=>jn_calls (B:=C.base) (π:=π) C.dv C.dom C.delay C.narrow C.unroll C.th C.m _ s v u W hd hu wsf wvf
 have hc4:=hc.call kb
 unfold CondPost at HW
 unfold Post at H1
 generalize wk C false=wq at *
 generalize wk C b=wa at *
 generalize stC i=xa at *
 generalize stC s=sa at *
 generalize stC s1=q1 at *
 generalize stC s2=q2 at *
 generalize stC v=r1 at *
 generalize stC u=uu at *
 have K0:Hid (_=_):=k0
 have K1:Hid (_=_):=k1
 have HQ:Hid (_=_):=hc4.q
 have c1:=cell_of hc4.c 1 (v:=.int .i64 (k:Nat)) rfl
 have c2:=cell_of hc4.c 2 (v:=.iface tl ul) rfl
 have c3:=cell_of hc4.c 3 (v:=.iface tr ur) rfl
 have HC4:Hid (CauAt wq (whA p k tl ul tr ur av nv cv) wa sa kq ko kw ks _):=hc4
 have HB:Hid (Below w.heap.size w _):=kb
 have HA:Hid (AnAt C π T F w):=h
 have H00:Hid (AnAt C π T F0 w0):=h0
 have HN:Hid (CauIn w0.heap.size kq ko kw ks):=hn
 have hlt:kq<w.heap.size∧ko<w.heap.size∧kw<w.heap.size∧ks<w.heap.size:=⟨heap_lt hc.q,heap_lt hc.c,heap_lt hc.o,heap_lt hc.s⟩
 have HLT:Hid (_∧_∧_∧_):=hlt
 clear h hs k0 k1 kb h1 hu wsf wvf hc hc4 h0 hn hlt
 go_enter Tryz.func242,Tryz.ntmps242
 go_wp2_with (first
  | (refine wp_ldW rfl _ rfl rfl HQ.out hwq ?_)
  | (refine wp_ld rfl _ rfl rfl K0.out hx17 ?_))
 refine HW.mono ?_
 rintro r w1 ⟨rfl,a1,b1⟩
 have hsz:w.heap.size≤w1.heap.size:=Nat.le_trans HB.out.size b1.below.size
 have hk1:w.heap.size + 1<w1.heap.size:=Nat.lt_of_lt_of_le (heap_lt K1.out) b1.below.size
 obtain ⟨t1,t2,t3,t4,tb⟩:=two_new w1 q1 q2 a17 b17
 have HT1:Hid (_=_):=t1
 have HT2:Hid (_=_):=t2
 have hz4:=(tb.block _ (heap_lt (b1.mine HA.out (by omega) K1.out))).trans (b1.mine HA.out (by omega) K1.out)
 have H0:Hid ((CauAt wq (whA p k tl ul tr ur av nv cv) wa sa kq ko kw ks ((((w1.alloc (.cells #[.bool false,.int .i64 0,.int .i64 0,.int .i64 0,.int .i64 0,.int .i64 0,.int .i64 0,.int .i64 0,.int .i64 0,.int .i64 0,.int .i64 0,.int .i64 0,.int .i64 0,.int .i64 0,.int .i64 0,.int .i64 0,.int .i64 0] 203)).alloc (.cells #[.bool false,.int .i64 0,.int .i64 0,.int .i64 0,.int .i64 0,.int .i64 0,.int .i64 0,.int .i64 0,.int .i64 0,.int .i64 0,.int .i64 0,.int .i64 0,.int .i64 0,.int .i64 0,.int .i64 0,.int .i64 0,.int .i64 0] 203)).setCells w1.heap.size 0 q1.toList).setCells (w1.heap.size + 1) 0 q2.toList).drew∧((((w1.alloc (.cells #[.bool false,.int .i64 0,.int .i64 0,.int .i64 0,.int .i64 0,.int .i64 0,.int .i64 0,.int .i64 0,.int .i64 0,.int .i64 0,.int .i64 0,.int .i64 0,.int .i64 0,.int .i64 0,.int .i64 0,.int .i64 0,.int .i64 0] 203)).alloc (.cells #[.bool false,.int .i64 0,.int .i64 0,.int .i64 0,.int .i64 0,.int .i64 0,.int .i64 0,.int .i64 0,.int .i64 0,.int .i64 0,.int .i64 0,.int .i64 0,.int .i64 0,.int .i64 0,.int .i64 0,.int .i64 0,.int .i64 0] 203)).setCells w1.heap.size 0 q1.toList).setCells (w1.heap.size + 1) 0 q2.toList).drew.heap[w1.heap.size]?=some (.cells q1 203))∧∃ d:Array Value,d.size=17∧((((w1.alloc (.cells #[.bool false,.int .i64 0,.int .i64 0,.int .i64 0,.int .i64 0,.int .i64 0,.int .i64 0,.int .i64 0,.int .i64 0,.int .i64 0,.int .i64 0,.int .i64 0,.int .i64 0,.int .i64 0,.int .i64 0,.int .i64 0,.int .i64 0] 203)).alloc (.cells #[.bool false,.int .i64 0,.int .i64 0,.int .i64 0,.int .i64 0,.int .i64 0,.int .i64 0,.int .i64 0,.int .i64 0,.int .i64 0,.int .i64 0,.int .i64 0,.int .i64 0,.int .i64 0,.int .i64 0,.int .i64 0,.int .i64 0] 203)).setCells w1.heap.size 0 q1.toList).setCells (w1.heap.size + 1) 0 q2.toList).drew.heap[w.heap.size + 1]?=some (.cells d 203)) :=
  ⟨⟨(HC4.out.keep H00.out HN.out b1).call tb.drew,t3⟩,⟨_,rfl,hz4⟩⟩
 have HA4:Hid (AnAt C π T F ((((w1.alloc (.cells #[.bool false,.int .i64 0,.int .i64 0,.int .i64 0,.int .i64 0,.int .i64 0,.int .i64 0,.int .i64 0,.int .i64 0,.int .i64 0,.int .i64 0,.int .i64 0,.int .i64 0,.int .i64 0,.int .i64 0,.int .i64 0,.int .i64 0] 203)).alloc (.cells #[.bool false,.int .i64 0,.int .i64 0,.int .i64 0,.int .i64 0,.int .i64 0,.int .i64 0,.int .i64 0,.int .i64 0,.int .i64 0,.int .i64 0,.int .i64 0,.int .i64 0,.int .i64 0,.int .i64 0,.int .i64 0,.int .i64 0] 203)).setCells w1.heap.size 0 q1.toList).setCells (w1.heap.size + 1) 0 q2.toList).drew):=HA.out.upon a1 (tb.mono hsz).drew
 have HK4:Hid (AKeep C w ((((w1.alloc (.cells #[.bool false,.int .i64 0,.int .i64 0,.int .i64 0,.int .i64 0,.int .i64 0,.int .i64 0,.int .i64 0,.int .i64 0,.int .i64 0,.int .i64 0,.int .i64 0,.int .i64 0,.int .i64 0,.int .i64 0,.int .i64 0,.int .i64 0] 203)).alloc (.cells #[.bool false,.int .i64 0,.int .i64 0,.int .i64 0,.int .i64 0,.int .i64 0,.int .i64 0,.int .i64 0,.int .i64 0,.int .i64 0,.int .i64 0,.int .i64 0,.int .i64 0,.int .i64 0,.int .i64 0,.int .i64 0,.int .i64 0] 203)).setCells w1.heap.size 0 q1.toList).setCells (w1.heap.size + 1) 0 q2.toList).drew):=AKeep.upon HA.out ((AKeep.of_below HB.out HA.out.le).trans b1) (tb.mono hsz).drew
 clear t1 t2 t3 t4 tb a1 b1 HW hz4 HC4 c1 c2 c3
 go_wp2_with (first
  | (refine wp_st rfl _ _ rfl rfl (c:=#[.bool false,.int .i64 0,.int .i64 0,.int .i64 0,.int .i64 0,.int .i64 0,.int .i64 0,.int .i64 0,.int .i64 0,.int .i64 0,.int .i64 0,.int .i64 0,.int .i64 0,.int .i64 0,.int .i64 0,.int .i64 0,.int .i64 0]) (d:=q1) rfl (by exact HT1.out) rfl a17 a1o ?_)
  | (refine wp_st rfl _ _ rfl rfl (c:=#[.bool false,.int .i64 0,.int .i64 0,.int .i64 0,.int .i64 0,.int .i64 0,.int .i64 0,.int .i64 0,.int .i64 0,.int .i64 0,.int .i64 0,.int .i64 0,.int .i64 0,.int .i64 0,.int .i64 0,.int .i64 0,.int .i64 0]) (d:=q2) rfl (by exact HT2.out) rfl b17 b1o ?_))
 generalize ((((w1.alloc (.cells #[.bool false,.int .i64 0,.int .i64 0,.int .i64 0,.int .i64 0,.int .i64 0,.int .i64 0,.int .i64 0,.int .i64 0,.int .i64 0,.int .i64 0,.int .i64 0,.int .i64 0,.int .i64 0,.int .i64 0,.int .i64 0,.int .i64 0] 203)).alloc (.cells #[.bool false,.int .i64 0,.int .i64 0,.int .i64 0,.int .i64 0,.int .i64 0,.int .i64 0,.int .i64 0,.int .i64 0,.int .i64 0,.int .i64 0,.int .i64 0,.int .i64 0,.int .i64 0,.int .i64 0,.int .i64 0,.int .i64 0] 203)).setCells w1.heap.size 0 q1.toList).setCells (w1.heap.size + 1) 0 q2.toList)=w4 at *
 refine wp_region_held_drew (S:=fun w':World=>(CauAt wq (whA p k tl ul tr ur av nv cv) wa sa kq ko kw ks w'∧w'.heap[w1.heap.size]?=some (.cells q1 203))∧∃ d:Array Value,d.size=17∧w'.heap[w.heap.size + 1]?=some (.cells d 203)) (by kernel_rfl) H0.out (fun hHeld=>?_)
 refine tky 0 rfl (yieldsIf_load_mid (by rfl) _ _ rfl _ _ rfl (wa).toList _ (fun w' h=>range_of h.1.1.o) Tryz.underlying200 rfl (by rw [infoWk,Array.length_toList,hws])) hHeld ?_
 simp only [Act.put]
 refine tky 2 rfl (yieldsIf_load_mid (by rfl) _ _ rfl _ _ rfl (wq).toList _ (fun w' h=>range_of h.1.1.q) Tryz.underlying200 rfl (by rw [infoWk,Array.length_toList,hwq])) hHeld ?_
 simp only [Act.put]
 refine tky 1 rfl (yieldsIf_load_mid (by rfl) _ _ rfl _ _ rfl (sa).toList _ (fun w' h=>range_of h.1.1.s) Tryz.underlying203 rfl (by rw [infoSt,Array.length_toList,s17])) hHeld ?_
 simp only [Act.put]
 refine tky 5 rfl (yieldsIf_load_mid (by rfl) _ _ rfl _ _ rfl (q1).toList _ (fun w' h=>range_of h.1.2) Tryz.underlying203 rfl (by rw [infoSt,Array.length_toList,a17])) hHeld ?_
 simp only [Act.put]
 refine tk 3 (.pointer (some ⟨ko,4,none⟩)) rfl (fun w' h=>by go_simp) hHeld ?_
 simp only [Act.put]
 refine tk 4 (.slice av nv cv) rfl (fun w' h=>by have d:=cell_of h.1.1.c 4 (v:=.slice av nv cv) rfl; go_simp) hHeld ?_
 simp only [Act.put]
 refine rd1 6 fun K hK=>?_
 simp only [gsb,gsa,Array.toArray_toList]
 go_simp
 refine (H1.out _ HK4.out HA4.out).mono ?_
 rintro r w5 ⟨rfl,a5,b5⟩
 go_wp2_with fail
 have HA5:Hid (AnAt C π T F w5):=a5
 have HK5:Hid (AKeep C w w5):=HK4.out.trans b5
 obtain ⟨d5,hd5,hz5⟩:=hHeld.2
 have hs5:=hHeld.1.1.keep H00.out HN.out b5
 have hq5:=b5.mine HA.out hsz hHeld.1.2
 have hz5:=b5.mine HA.out (by omega) hz5
 refine hK.out _ _ ⟨⟨hs5,hq5⟩,d5,hd5,hz5⟩ (fun hHeld=>?_)
 clear hK K hs5 a5 b5 hq5 hz5
 refine rd1 7 fun K hK=>?_
 simp only [gsb]
 go_simp
 refine (HJ.out _ HA5.out.does).mono ?_
 rintro r w7 ⟨rfl,b7⟩
 go_wp2_with fail
 have HA7:Hid (AnAt C π T F w7):=HA5.out.call b7
 have HK7:Hid (AKeep C w w7):=HK5.out.more b7 HA.out.le
 obtain ⟨d7,hd7,hz7⟩:=hHeld.2
 have hs7:=hHeld.1.1.call b7
 have hq7:=(b7.block _ (heap_lt hHeld.1.2)).trans hHeld.1.2
 have hz7:=(b7.block _ (heap_lt hz7)).trans hz7
 refine hK.out _ _ ⟨⟨hs7,hq7⟩,d7,hd7,hz7⟩ (fun _=>?_)
 clear hK K b7
 have hr0:Hid (_=_):=setCells_whole hz7 (d:=uu) (by omega)
 have HBf:Hid (Below w.heap.size w7 _):=setCells_below (b:=w.heap.size + 1) (by omega) uu.toList 0 w7 _ (Below.refl _ _)
 have hlt:=HLT.out
 refine rd1 8 fun K hK=>?_
 simp only [gsb]
 rw [if_pos (by rfl)]
 refine wr_st _ _ rfl rfl rfl (by rw [← hd7]; exact there_of hz7) u17 u1o ?_
 refine hK.out _ _ ⟨⟨hs7.put (by omega) _,(setCells_other _ _ _ _ (by omega)).trans hq7⟩,⟨uu,u17,hr0.out⟩⟩ (fun _=>?_)
 clear hK K hHeld
 refine wpAnyH_done (by kernel_rfl) ?_ _
 go_wp2_with fail
 refine bodyPost_ret (results_st Tryz.results242 _ _ rfl hr0.out u17) rfl ⟨rfl,HA.out.upon HA7.out HBf.out,AKeep.upon HA.out HK7.out HBf.out⟩
end WC
end Go.Proofs.YtiopfihjmkfdmaaGreatDoor
namespace Go.Proofs.YtiopfihjmkfdmaaGreatDoor
namespace WC
open Go.RowKit
set_option maxRecDepth 100000
set_option maxHeartbeats 1000000
theorem sum_of_neg (tv:TypeId) (uv:Value) (C:Cx) (π:Par) (T:Tab) (F:Fd) (b:Bool) (w:World) (e:Fin 8→Sp.Cg) (es:List TelT) (o:Option Sp.Cg) (h:AnAt C π T F w)
  (hs:∀ W,AnAt C π T F W→Calls Tryz.prog 216 #[.agg (wk C b),.agg #[.iface tv uv],.agg (stC (some e))] W (SumPost C π T F b W es o)) :
  Calls Tryz.prog 193 #[.agg (wk C b),.iface 330 (.agg #[.iface tv uv]),.agg (stC (some e))] w (SumPost C π T F b w es o):=by
 have h1:=ta_neg_num (.agg #[.iface tv uv])
 have h2:=ta_neg_name (.agg #[.iface tv uv])
 have h3:=ta_neg_neg (.agg #[.iface tv uv])
 obtain ⟨k0,k1,k2,k3,kb⟩:=laid4b (w:=w) (o1:=.cells (wk C b) 200) (o2:=.cells (stC (some e)) 203) (o3:=.cells #[.int .i64 0,.int .i64 0] 126) (o4:=.cells #[.iface tv uv] 330) (Below.refl _ _)
 have HW:=hs _ (h.call kb)
 have hws:=wk_size C b
 have hx17:=stC_size (some e)
 generalize wk C b=wa at *
 generalize stC (some e)=xa at *
 have K0:Hid (_=_):=k0
 have K1:Hid (_=_):=k1
 have K2:Hid (_=_):=k2
 have HB:Hid (Below w.heap.size w _):=kb
 have HA:Hid (AnAt C π T F w):=h
 have hle2:w.heap.size≤w.heap.size + 1 + 1:=by omega
 clear h k0 k1 k2 k3 kb hs
 go_enter Tryz.func193,Tryz.ntmps193
 go_wp2_with (first
  | (refine wp_ldW rfl _ rfl rfl K0.out hws ?_)
  | (refine wp_ld rfl _ rfl rfl K1.out hx17 ?_))
 refine HW.mono ?_
 rintro r w1 ⟨rfl,a1,b1⟩
 have hz1:=b1.mine HA.out hle2 K2.out
 obtain ⟨m0,m1,mf0,mf1,_⟩:=res2 hz1
 have HZ1:Hid (_=_):=hz1
 have HA1:Hid (AnAt C π T (told π b F es) w1):=a1
 have HK1:Hid (AKeep C w w1):=(AKeep.of_below HB.out HA.out.le).trans b1
 clear a1 b1 HW hz1
 cases o with
 | none =>
  have H2:Hid (_=_):=two_set HZ1.out (.int .i64 0) (.int .i64 0)
  have HB2:Hid (Below w.heap.size w1 _):=Below.two (Below.refl w.heap.size w1) hle2 (.int .i64 0) (.int .i64 0)
  simp only [opV]
  go_wp2_with fail
  have Q0:=cell_of H2.out 0 (v:=.int .i64 0) rfl
  have Q1:=cell_of H2.out 1 (v:=.int .i64 0) rfl
  refine bodyPost_ret (v:=.tuple #[.agg #[.int .i64 0,.int .i64 0],.bool false]) (by simp [results,Tryz.results193,go_sem,Q0,Q1]) rfl ?_
  exact ⟨rfl,HA.out.upon HA1.out HB2.out,AKeep.upon HA.out HK1.out HB2.out⟩
 | some z =>
  have H2:Hid (_=_):=two_set HZ1.out (.int .i64 ((z.m:Nat):Int)) (.int .i64 z.r)
  have HB2:Hid (Below w.heap.size w1 _):=Below.two (Below.refl w.heap.size w1) hle2 (.int .i64 ((z.m:Nat):Int)) (.int .i64 z.r)
  simp only [opV]
  go_wp2_with fail
  have Q0:=cell_of H2.out 0 (v:=.int .i64 ((z.m:Nat):Int)) rfl
  have Q1:=cell_of H2.out 1 (v:=.int .i64 z.r) rfl
  refine bodyPost_ret (v:=.tuple #[.agg #[.int .i64 ((z.m:Nat):Int),.int .i64 z.r],.bool true]) (by simp [results,Tryz.results193,go_sem,Q0,Q1]) rfl ?_
  exact ⟨rfl,HA.out.upon HA1.out HB2.out,AKeep.upon HA.out HK1.out HB2.out⟩
theorem sum_of_bin (k:Nat) (q:Int) (tl:TypeId) (ul:Value) (tr:TypeId) (ur:Value) (C:Cx) (π:Par) (T:Tab) (F:Fd) (b:Bool) (w:World) (e:Fin 8→Sp.Cg) (es:List TelT) (o:Option Sp.Cg) (h:AnAt C π T F w)
  (hs:∀ W,AnAt C π T F W→Calls Tryz.prog 217 #[.agg (wk C b),.agg #[.int .i64 (k:Nat),.int .i64 q,.iface tl ul,.iface tr ur],.agg (stC (some e))] W (SumPost C π T F b W es o)) :
  Calls Tryz.prog 193 #[.agg (wk C b),.iface 334 (.agg #[.int .i64 (k:Nat),.int .i64 q,.iface tl ul,.iface tr ur]),.agg (stC (some e))] w (SumPost C π T F b w es o):=by
 have h1:=ta_bin_num (.agg #[.int .i64 (k:Nat),.int .i64 q,.iface tl ul,.iface tr ur])
 have h2:=ta_bin_name (.agg #[.int .i64 (k:Nat),.int .i64 q,.iface tl ul,.iface tr ur])
 have h3:=ta_bin_neg (.agg #[.int .i64 (k:Nat),.int .i64 q,.iface tl ul,.iface tr ur])
 have h4:=ta_bin_bin (.agg #[.int .i64 (k:Nat),.int .i64 q,.iface tl ul,.iface tr ur])
 obtain ⟨k0,k1,k2,k3,kb⟩:=laid4b (w:=w) (o1:=.cells (wk C b) 200) (o2:=.cells (stC (some e)) 203) (o3:=.cells #[.int .i64 0,.int .i64 0] 126) (o4:=.cells #[.int .i64 (k:Nat),.int .i64 q,.iface tl ul,.iface tr ur] 334) (Below.refl _ _)
 have HW:=hs _ (h.call kb)
 have hws:=wk_size C b
 have hx17:=stC_size (some e)
 generalize wk C b=wa at *
 generalize stC (some e)=xa at *
 have K0:Hid (_=_):=k0
 have K1:Hid (_=_):=k1
 have K2:Hid (_=_):=k2
 have HB:Hid (Below w.heap.size w _):=kb
 have HA:Hid (AnAt C π T F w):=h
 have hle2:w.heap.size≤w.heap.size + 1 + 1:=by omega
 clear h k0 k1 k2 k3 kb hs
 go_enter Tryz.func193,Tryz.ntmps193
 go_wp2_with (first
  | (refine wp_ldW rfl _ rfl rfl K0.out hws ?_)
  | (refine wp_ld rfl _ rfl rfl K1.out hx17 ?_))
 refine HW.mono ?_
 rintro r w1 ⟨rfl,a1,b1⟩
 have hz1:=b1.mine HA.out hle2 K2.out
 obtain ⟨m0,m1,mf0,mf1,_⟩:=res2 hz1
 have HZ1:Hid (_=_):=hz1
 have HA1:Hid (AnAt C π T (told π b F es) w1):=a1
 have HK1:Hid (AKeep C w w1):=(AKeep.of_below HB.out HA.out.le).trans b1
 clear a1 b1 HW hz1
 cases o with
 | none =>
  have H2:Hid (_=_):=two_set HZ1.out (.int .i64 0) (.int .i64 0)
  have HB2:Hid (Below w.heap.size w1 _):=Below.two (Below.refl w.heap.size w1) hle2 (.int .i64 0) (.int .i64 0)
  simp only [opV]
  go_wp2_with fail
  have Q0:=cell_of H2.out 0 (v:=.int .i64 0) rfl
  have Q1:=cell_of H2.out 1 (v:=.int .i64 0) rfl
  refine bodyPost_ret (v:=.tuple #[.agg #[.int .i64 0,.int .i64 0],.bool false]) (by simp [results,Tryz.results193,go_sem,Q0,Q1]) rfl ?_
  exact ⟨rfl,HA.out.upon HA1.out HB2.out,AKeep.upon HA.out HK1.out HB2.out⟩
 | some z =>
  have H2:Hid (_=_):=two_set HZ1.out (.int .i64 ((z.m:Nat):Int)) (.int .i64 z.r)
  have HB2:Hid (Below w.heap.size w1 _):=Below.two (Below.refl w.heap.size w1) hle2 (.int .i64 ((z.m:Nat):Int)) (.int .i64 z.r)
  simp only [opV]
  go_wp2_with fail
  have Q0:=cell_of H2.out 0 (v:=.int .i64 ((z.m:Nat):Int)) rfl
  have Q1:=cell_of H2.out 1 (v:=.int .i64 z.r) rfl
  refine bodyPost_ret (v:=.tuple #[.agg #[.int .i64 ((z.m:Nat):Int),.int .i64 z.r],.bool true]) (by simp [results,Tryz.results193,go_sem,Q0,Q1]) rfl ?_
  exact ⟨rfl,HA.out.upon HA1.out HB2.out,AKeep.upon HA.out HK1.out HB2.out⟩
theorem neg_an (tv:TypeId) (uv:Value) (x:Sp.Sm) (ct:Sp.Ct) (hx:Sp.OkS x) (hs:SumAn (.iface tv uv) x ct):SumAn (.iface 330 (.agg #[.iface tv uv])) (.neg x) ct:=by
 intro C π T F b w e h he hr
 exact sum_of_neg tv uv C π T F b w e _ _ h fun W hW=>negation_calls tv uv C π T F b W e _ _ hW (fun W2 hW2=>hs C π T F b W2 e hW2 he hr) (fun a ha=>Sp.anS_wf (K:=Kr π) x hx ct e he a ha)
theorem sides_an (tl:TypeId) (ul:Value) (tr:TypeId) (ur:Value) (x y:Sp.Sm) (ct ct':Sp.Ct) (hs:SumAn (.iface tl ul) x ct) (hs':SumAn (.iface tr ur) y ct')
  (C:Cx) (π:Par) (T:Tab) (F:Fd) (b:Bool) (e:Fin 8→Sp.Cg) (he:∀ k,Wv (e k)) :
  (∀ es,Sp.anS (Dm π) x ct e=(es,none)→Rng b F es→SidesAt C π T F b (.iface tl ul) (.iface tr ur) e es none) ∧
  (∀ es a es2,Sp.anS (Dm π) x ct e=(es,some a)→Sp.anS (Dm π) y ct' e=(es2,none)→Rng b F (es ++ es2)→SidesAt C π T F b (.iface tl ul) (.iface tr ur) e (es ++ es2) none) ∧
  (∀ es a es2 c,Sp.anS (Dm π) x ct e=(es,some a)→Sp.anS (Dm π) y ct' e=(es2,some c)→Rng b F (es ++ es2)→SidesAt C π T F b (.iface tl ul) (.iface tr ur) e (es ++ es2) (some (a,c))):=by
 refine ⟨fun es h1 hr W hW=>?_,fun es a es2 h1 h2 hr W hW=>?_,fun es a es2 c h1 h2 hr W hW=>?_⟩
 ·refine sides_no tl ul tr ur C π T F b W e es hW (fun W2 hW2=>?_)
  have:=hs C π T F b W2 e hW2 he (by rw [h1]; exact hr)
  rw [h1] at this
  exact this
 ·refine sides_half tl ul tr ur C π T F b W e es es2 a hW (fun W2 hW2=>?_) (fun W2 hW2=>?_)
  ·have:=hs C π T F b W2 e hW2 he (by rw [h1]; exact hr.left)
   rw [h1] at this
   exact this
  ·have:=hs' C π T (told π b F es) b W2 e hW2 he (by rw [h2]; exact hr.right)
   rw [h2] at this
   exact this
 ·refine sides_both tl ul tr ur C π T F b W e es es2 a c hW (fun W2 hW2=>?_) (fun W2 hW2=>?_)
  ·have:=hs C π T F b W2 e hW2 he (by rw [h1]; exact hr.left)
   rw [h1] at this
   exact this
  ·have:=hs' C π T (told π b F es) b W2 e hW2 he (by rw [h2]; exact hr.right)
   rw [h2] at this
   exact this
theorem bin_an (k:Nat) (hk:k<5) (q:Int) (tl:TypeId) (ul:Value) (tr:TypeId) (ur:Value) (x y:Sp.Sm) (ct:Sp.Ct) (hq:3≤k→q=(Sp.cS x ct).2) (hx:Sp.OkS x) (hy:Sp.OkS y)
  (hs:SumAn (.iface tl ul) x ct) (hs':SumAn (.iface tr ur) y (if 3≤k then Sp.siteUp (Sp.cS x ct) else Sp.cS x ct)) :
  SumAn (.iface 334 (.agg #[.int .i64 (k:Nat),.int .i64 q,.iface tl ul,.iface tr ur])) (.bin k x y) ct:=by
 intro C π T F b w e h he hr
 obtain ⟨s1,s2,s3⟩:=sides_an tl ul tr ur x y ct _ hs hs' C π T F b e he
 have wx:=Sp.anS_wf (K:=Kr π) x hx ct e he
 have wy:=Sp.anS_wf (K:=Kr π) y hy (if 3≤k then Sp.siteUp (Sp.cS x ct) else Sp.cS x ct) e he
 cases ex:Sp.anS (Dm π) x ct e with
 | mk es o =>
  rw [ex] at wx
  cases o with
  | none =>
   have E:=Sp.anS_b1 (Dm π) k x y ct e es ex
   rw [E] at hr ⊢
   exact sum_of_bin k q tl ul tr ur C π T F b w e _ _ h fun W hW=>binary_no k q tl ul tr ur C π T F b W e es hW (s1 es ex hr)
  | some a =>
   cases ey:Sp.anS (Dm π) y (if 3≤k then Sp.siteUp (Sp.cS x ct) else Sp.cS x ct) e with
   | mk es2 o2 =>
    rw [ey] at wy
    cases o2 with
    | none =>
     have E:=Sp.anS_b2 (Dm π) k x y ct e es a es2 ex ey
     rw [E] at hr ⊢
     exact sum_of_bin k q tl ul tr ur C π T F b w e _ _ h fun W hW=>binary_no k q tl ul tr ur C π T F b W e (es ++ es2) hW (s2 es a es2 ex ey hr)
    | some c =>
     by_cases h3:3≤k
     ·have E:=Sp.anS_b3 (Dm π) k x y ct e es a es2 c ex ey h3
      rw [← hq h3] at E
      rw [E] at hr ⊢
      exact sum_of_bin k q tl ul tr ur C π T F b w e _ _ h fun W hW=>binary_site k hk h3 q tl ul tr ur C π T F b W e (es ++ es2) a c (wx a rfl) (wy c rfl) hW (s3 es a es2 c ex ey hr.left) hr.right
     ·have E:=Sp.anS_b4 (Dm π) k x y ct e es a es2 c ex ey h3
      rw [E] at hr ⊢
      exact sum_of_bin k q tl ul tr ur C π T F b w e _ _ h fun W hW=>binary_plain k hk h3 q tl ul tr ur C π T F b W e (es ++ es2) a c (wx a rfl) (wy c rfl) hW (s3 es a es2 c ex ey hr)
end WC
end Go.Proofs.YtiopfihjmkfdmaaGreatDoor
namespace Go.Proofs.YtiopfihjmkfdmaaGreatDoor
namespace WC
open Go.RowKit
set_option maxRecDepth 100000
set_option maxHeartbeats 1000000
def CondAn (vl vr:Value) (k:Nat) (x y:Sp.Sm) (ct:Sp.Ct):Prop :=
 ∀ (C:Cx) (π:Par) (T:Tab) (F:Fd) (b:Bool) (w:World) (s:ST),AnAt C π T F w→Sp.Wf (Kr π) s→Rng b F (Sp.anC (Dm π) k x y ct s).1 →
  Calls Tryz.prog 194 #[.agg (wk C b),.agg #[.int .i64 (k:Nat),vl,vr],.agg (stC s)] w (CondPost C π T F b w (Sp.anC (Dm π) k x y ct s).1 (Sp.anC (Dm π) k x y ct s).2.1 (Sp.anC (Dm π) k x y ct s).2.2)
theorem cond_an (k:Nat) (hk:k<6) (tl:TypeId) (ul:Value) (tr:TypeId) (ur:Value) (x y:Sp.Sm) (ct:Sp.Ct) (hx:Sp.OkS x) (hy:Sp.OkS y) (sx:SideIs (.iface tl ul) x) (sy:SideIs (.iface tr ur) y)
  (hs:SumAn (.iface tl ul) x ct) (hs':SumAn (.iface tr ur) y (Sp.cS x ct)):CondAn (.iface tl ul) (.iface tr ur) k x y ct:=by
 intro C π T F b w s h hw hr
 cases s with
 | none=>exact cond_none k _ _ C π T F b w h
 | some e =>
  have he:=hw e rfl
  suffices H:∀ A:List TelT × ST × ST,Sp.anC (Dm π) k x y ct (some e)=A→Rng b F A.1→Calls Tryz.prog 194 #[.agg (wk C b),.agg #[.int .i64 (k:Nat),.iface tl ul,.iface tr ur],.agg (stC (some e))] w (CondPost C π T F b w A.1 A.2.1 A.2.2) from H _ rfl hr
  intro A hA hr
  obtain ⟨s1,s2,s3⟩:=sides_an tl ul tr ur x y ct _ hs hs' C π T F b e he
  have wx:=Sp.anS_wf (K:=Kr π) x hx ct e he
  have wy:=Sp.anS_wf (K:=Kr π) y hy (Sp.cS x ct) e he
  cases ex:Sp.anS (Dm π) x ct e with
  | mk es o =>
   rw [ex] at wx
   cases o with
   | none =>
    have E:=Sp.anC_c1 (Dm π) k x y ct e es ex
    obtain rfl:=hA.symm.trans E
    exact cond_no k tl ul tr ur C π T F b w e es h (s1 es ex hr)
   | some a =>
    cases ey:Sp.anS (Dm π) y (Sp.cS x ct) e with
    | mk es2 o2 =>
     rw [ey] at wy
     cases o2 with
     | none =>
      have E:=Sp.anC_c2 (Dm π) k x y ct e es a es2 ex ey
      obtain rfl:=hA.symm.trans E
      exact cond_no k tl ul tr ur C π T F b w e (es ++ es2) h (s2 es a es2 ex ey hr)
     | some c =>
      have E:=Sp.anC_c3 (Dm π) k x y ct e es a es2 c ex ey
      obtain rfl:=hA.symm.trans E
      exact cond_yes k hk tl ul tr ur x y sx sy a c (wx a rfl) (wy c rfl) C π T F b w e he (es ++ es2) h (s3 es a es2 c ex ey hr) _ _ rfl rfl
end WC
end Go.Proofs.YtiopfihjmkfdmaaGreatDoor
