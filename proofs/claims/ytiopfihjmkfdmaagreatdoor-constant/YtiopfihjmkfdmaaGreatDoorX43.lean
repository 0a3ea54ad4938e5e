import Derived.Test.YtiopfihjmkfdmaaGreatDoorX41
import Derived.Test.YtiopfihjmkfdmaaGreatDoorX42
import Derived.Laws.MakeOwn
namespace Go.Proofs.YtiopfihjmkfdmaaGreatDoor
namespace WC
open Go.RowKit
set_option maxRecDepth 100000
set_option maxHeartbeats 2000000
theorem conds_at {vl vr:Value} {k:Nat} {x y:Sp.Sm} {ct:Sp.Ct} (h:CondAn vl vr k x y ct) {C:Cx} {π:Par} {T:Tab} {F:Fd} {b:Bool} {s:ST} (hs:Sp.Wf (Kr π) s) (hr:Rng b F (Sp.anC (Dm π) k x y ct s).1) :
  CondsAt C π T F b k vl vr s (Sp.anC (Dm π) k x y ct s).1 (Sp.anC (Dm π) k x y ct s).2.1 (Sp.anC (Dm π) k x y ct s).2.2:=fun W hW=>h C π T F b W s hW hs hr
theorem Rng.right2 {π:Par} {b:Bool} {F:Fd} {es es' es'':List TelT} (h:Rng b F (es ++ es' ++ es'')):Rng b (WC.told π b (WC.told π b F es) es') es'':=by
 rw [← told_append]
 exact h.right
theorem st_assign (ct:Int × Int) (lo hi:Nat) (w:World) (k:Nat) (v:Value) (x:Sp.Sm) (ct':Int × Int) (hk:k<8) (h:RpAn.S (ptUp ct) v x ct'):StA ct lo hi w (.iface 279 (.agg #[.int .i64 ct.1,.int .i64 (k:Nat),v])) (Sp.Bl.assign k x) ct':=by
 obtain ⟨⟨t,u,rfl⟩,hs,_,ok,he⟩:=h
 refine ⟨⟨_,_,rfl,mw_assign _ _ _⟩,fun π P e=>Sp.stAssign (Dm π) k x (Sp.ptUp ct) e,?_,?_,?_,?_,?_,?_⟩
 ·intro rest; rw [← he]; rfl
 ·intro rest hr; exact Sp.okB_app ok hr
 ·intro π P rest s; rw [← he]; rfl
 ·intro π P e hwe; exact Sp.assign_wf' (K:=Kr π) ok _ e hwe
 ·intro π P T rest hl; rw [← he]; exact ⟨trivial,hl⟩
 ·intro C π T F b W e hso hhB _ _ _ ha hwe hr
  exact stmt_assign ct.1 k t u C π T F b W e _ _ ha (fun W' hk' ha'=>assign_calls ct.1 k hk t u C π T F b W' e _ _ ha' (fun W2 h2=>hs C π T F b W2 e h2 hwe hr) _ rfl)
theorem st_read (ct:Int × Int) (lo hi:Nat) (w:World) (k:Nat) (hk:k<8):StA ct lo hi w (.iface 283 (.agg #[.int .i64 ct.1,.int .i64 (k:Nat)])) (Sp.Bl.read k) (ptUp ct):=by
 refine ⟨⟨_,_,rfl,mw_read _ _⟩,fun π P e=>Sp.stRead (Dm π) k e,?_,?_,?_,?_,?_,?_⟩
 ·intro rest; rfl
 ·intro rest hr; exact hr
 ·intro π P rest s; rfl
 ·intro π P e hwe; exact Sp.Wf.some (Sp.wf_set hwe k (Kr π).wwhole)
 ·intro π P T rest hl; exact ⟨trivial,hl⟩
 ·intro C π T F b W e hso hhB _ _ _ ha hwe hr
  exact stmt_read ct.1 k hk C π T F b W e ha
theorem st_assert (ct:Int × Int) (lo hi:Nat) (w:World) (k:Nat) (v:Value) (x:Sp.Sm) (ct1:Int × Int) (u:Value) (y:Sp.Sm) (ct2:Int × Int) (hk:k<6) (h:RpAn.S (siteUp (ptUp ct)) v x ct1) (h':RpAn.S ct1 u y ct2):StA ct lo hi w (.iface 287 (.agg #[.int .i64 ct.1,.int .i64 ct.2,.int .i64 (k:Nat),v,u])) (Sp.Bl.assert k x y) ct2:=by
 obtain ⟨⟨tl,ul,rfl⟩,hs,sx,okx,rfl⟩:=h
 obtain ⟨⟨tr,ur,rfl⟩,hs',sy,oky,rfl⟩:=h'
 have hc:=cond_an k hk tl ul tr ur x y _ okx oky sx sy hs hs'
 refine ⟨⟨_,_,rfl,mw_assert _ _ _ _ _⟩,fun π P e=>Sp.stAssert (Dm π) ct.2 k x y (Sp.siteUp (Sp.ptUp ct)) e,?_,?_,?_,?_,?_,?_⟩
 ·intro rest; rfl
 ·intro rest hr; exact Sp.okB_app (Sp.okB_app okx oky) hr
 ·intro π P rest s; rfl
 ·intro π P e hwe; exact (Sp.anC_wf (K:=Kr π) okx oky (Sp.Wf.some hwe)).1
 ·intro π P T rest hl; exact ⟨trivial,hl⟩
 ·intro C π T F b W e hso hhB _ _ _ ha hwe hr
  have hr':Rng b F ((Sp.anC (Dm π) k x y (Sp.siteUp (Sp.ptUp ct)) (some e)).1 ++ [Sp.Tel.site ct.2 (Sp.anC (Dm π) k x y (Sp.siteUp (Sp.ptUp ct)) (some e)).2.2.isSome]):=hr
  exact stmt_assert ct.1 ct.2 k tl ul tr ur C π T F b W e _ _ ha (fun W' hk' ha'=>assert_calls ct.1 ct.2 k tl ul tr ur C π T F b W' e _ _ _ ha' (conds_at hc (Sp.Wf.some hwe) hr'.left) hr'.right)
theorem st_ite (ct:Int × Int) (lo hi:Nat) (w:World) (k:Nat) (v:Value) (x:Sp.Sm) (ct1:Int × Int) (u:Value) (y:Sp.Sm) (ct2:Int × Int) (bv:Value) (xs:List (Sp.Bl→Sp.Bl)) (ct3:Int × Int) (hk:k<6) (h:RpAn.S (ptUp ct) v x ct1) (h':RpAn.S ct1 u y ct2) (hb:Blk StA ct2 lo hi w bv xs ct3) :
  StA ct lo hi w (.iface 290 (.agg #[.int .i64 ct.1,.int .i64 (k:Nat),v,u,bv,.slice none 0 0,.bool false])) (Sp.Bl.ite k x y (Sp.joinB xs) false .nil) ct3:=by
 obtain ⟨⟨tl,ul,rfl⟩,hs,sx,okx,rfl⟩:=h
 obtain ⟨⟨tr,ur,rfl⟩,hs',sy,oky,rfl⟩:=h'
 obtain ⟨av,nv,cv,rfl⟩:=blk_slice hb
 have B:=blk_an hb
 have hc:=cond_an k hk tl ul tr ur x y _ okx oky sx sy hs hs'
 have hcw:∀ π,Sp.CondWf (Kr π) (Sp.anC (Dm π) k x y (Sp.ptUp ct)):=fun π s hs=>Sp.anC_wf okx oky hs
 have hbw:∀ π P,Sp.BodyWf (Kr π) (Sp.anB (Dm π) P (Sp.joinB xs) (Sp.cS y (Sp.cS x (Sp.ptUp ct)))):=fun π P s hs=>Sp.anB_wf P _ B.ok _ s hs
 refine ⟨⟨_,_,rfl,mw_if _ _ _ _ _ _ _⟩,fun π P e=>Sp.stIf (Dm π) (Sp.anC (Dm π) k x y (Sp.ptUp ct)) (Sp.anB (Dm π) P (Sp.joinB xs) (Sp.cS y (Sp.cS x (Sp.ptUp ct)))) (fun s=>([],s)) e,?_,?_,?_,?_,?_,?_⟩
 ·intro rest; rw [← B.cb]; rfl
 ·intro rest hr
  intro n hn
  have:n ∈ Sp.nuS x ++ Sp.nuS y ++ Sp.nuB (Sp.joinB xs) ++ [] ++ Sp.nuB rest:=hn
  exact Sp.okB_app (Sp.okB_app (Sp.okB_app (Sp.okB_app okx oky) B.ok) (fun n h=>by cases h)) hr n this
 ·intro π P rest s; rw [← B.cb]; rfl
 ·intro π P e hwe; exact Sp.if_wf' (K:=Kr π) (hcw π) (hbw π P) (fun s hs=>hs) e hwe
 ·intro π P T rest hl; rw [← B.cb]; exact ⟨⟨hl.1,trivial⟩,hl.2⟩
 ·intro C π T F b W e hso hhB hnar hunr hlp ha hwe hr
  have wc:=hcw π (some e) (Sp.Wf.some hwe)
  have hr':Rng b F ((Sp.anC (Dm π) k x y (Sp.ptUp ct) (some e)).1 ++ (Sp.anB (Dm π) C.pol (Sp.joinB xs) (Sp.cS y (Sp.cS x (Sp.ptUp ct))) (Sp.anC (Dm π) k x y (Sp.ptUp ct) (some e)).2.1).1 ++ []):=hr
  exact stmt_if ct.1 k tl ul tr ur av nv cv none 0 0 false C π T F b W e _ _ ha (fun W' hk' ha'=>branch_calls ct.1 k tl ul tr ur av nv cv none 0 0 false C π T F b W' e _ _ [] _ _ _ _ _ ha' (conds_at hc (Sp.Wf.some hwe) hr'.left.left)
   (fun W2 hk2 ha2=>B.calls C π T b W hso hhB hnar hunr hlp.1 _ W2 _ (hk'.trans hk2) ha2 wc.1 hr'.left.right)
   (fun W2 hk2 ha2=>block_nil C π T _ b W2 _ ha2) (hbw π C.pol _ wc.1) wc.2 rfl)
theorem st_iteElse (ct:Int × Int) (lo hi:Nat) (w:World) (k:Nat) (v:Value) (x:Sp.Sm) (ct1:Int × Int) (u:Value) (y:Sp.Sm) (ct2:Int × Int) (bv:Value) (xs:List (Sp.Bl→Sp.Bl)) (ct3:Int × Int) (cv:Value) (ys:List (Sp.Bl→Sp.Bl)) (ct4:Int × Int) (hk:k<6) (h:RpAn.S (ptUp ct) v x ct1) (h':RpAn.S ct1 u y ct2) (hb:Blk StA ct2 lo hi w bv xs ct3) (hc':Blk StA ct3 lo hi w cv ys ct4) :
  StA ct lo hi w (.iface 290 (.agg #[.int .i64 ct.1,.int .i64 (k:Nat),v,u,bv,cv,.bool true])) (Sp.Bl.ite k x y (Sp.joinB xs) true (Sp.joinB ys)) ct4:=by
 obtain ⟨⟨tl,ul,rfl⟩,hs,sx,okx,rfl⟩:=h
 obtain ⟨⟨tr,ur,rfl⟩,hs',sy,oky,rfl⟩:=h'
 obtain ⟨av,nv,cv,rfl⟩:=blk_slice hb
 obtain ⟨ae,ne,ce,rfl⟩:=blk_slice hc'
 have B:=blk_an hb
 have E:=blk_an hc'
 have hB:=B.cb
 subst hB
 have hc:=cond_an k hk tl ul tr ur x y _ okx oky sx sy hs hs'
 have hcw:∀ π,Sp.CondWf (Kr π) (Sp.anC (Dm π) k x y (Sp.ptUp ct)):=fun π s hs=>Sp.anC_wf okx oky hs
 have hbw:∀ π P,Sp.BodyWf (Kr π) (Sp.anB (Dm π) P (Sp.joinB xs) (Sp.cS y (Sp.cS x (Sp.ptUp ct)))):=fun π P s hs=>Sp.anB_wf P _ B.ok _ s hs
 have hew:∀ π P,Sp.BodyWf (Kr π) (Sp.anB (Dm π) P (Sp.joinB ys) (Sp.cB (Sp.joinB xs) (Sp.cS y (Sp.cS x (Sp.ptUp ct))))):=fun π P s hs=>Sp.anB_wf P _ E.ok _ s hs
 refine ⟨⟨_,_,rfl,mw_if _ _ _ _ _ _ _⟩,fun π P e=>Sp.stIf (Dm π) (Sp.anC (Dm π) k x y (Sp.ptUp ct)) (Sp.anB (Dm π) P (Sp.joinB xs) (Sp.cS y (Sp.cS x (Sp.ptUp ct)))) (Sp.anB (Dm π) P (Sp.joinB ys) (Sp.cB (Sp.joinB xs) (Sp.cS y (Sp.cS x (Sp.ptUp ct))))) e,?_,?_,?_,?_,?_,?_⟩
 ·intro rest; rw [← E.cb]; rfl
 ·intro rest hr; exact Sp.okB_app (Sp.okB_app (Sp.okB_app (Sp.okB_app okx oky) B.ok) E.ok) hr
 ·intro π P rest s; rw [← E.cb]; rfl
 ·intro π P e hwe; exact Sp.if_wf' (K:=Kr π) (hcw π) (hbw π P) (hew π P) e hwe
 ·intro π P T rest hl; rw [← E.cb]; exact ⟨⟨hl.1,hl.2.1,trivial⟩,hl.2.2⟩
 ·intro C π T F b W e hso hhB hnar hunr hlp ha hwe hr
  have wc:=hcw π (some e) (Sp.Wf.some hwe)
  have hr':Rng b F ((Sp.anC (Dm π) k x y (Sp.ptUp ct) (some e)).1 ++ (Sp.anB (Dm π) C.pol (Sp.joinB xs) (Sp.cS y (Sp.cS x (Sp.ptUp ct))) (Sp.anC (Dm π) k x y (Sp.ptUp ct) (some e)).2.1).1 ++ (Sp.anB (Dm π) C.pol (Sp.joinB ys) (Sp.cB (Sp.joinB xs) (Sp.cS y (Sp.cS x (Sp.ptUp ct)))) (Sp.anC (Dm π) k x y (Sp.ptUp ct) (some e)).2.2).1):=hr
  exact stmt_if ct.1 k tl ul tr ur av nv cv ae ne ce true C π T F b W e _ _ ha (fun W' hk' ha'=>branch_calls ct.1 k tl ul tr ur av nv cv ae ne ce true C π T F b W' e _ _ _ _ _ _ _ _ ha' (conds_at hc (Sp.Wf.some hwe) hr'.left.left)
   (fun W2 hk2 ha2=>B.calls C π T b W hso hhB hnar hunr hlp.1 _ W2 _ (hk'.trans hk2) ha2 wc.1 hr'.left.right)
   (fun W2 hk2 ha2=>E.calls C π T b W hso hhB hnar hunr hlp.2.1 _ W2 _ (hk'.trans hk2) ha2 wc.2 hr'.right2) (hbw π C.pol _ wc.1) (hew π C.pol _ wc.2) rfl)
theorem st_loop (ct:Int × Int) (lo hi:Nat) (w:World) (k:Nat) (v:Value) (x:Sp.Sm) (ct1:Int × Int) (u:Value) (y:Sp.Sm) (ct2:Int × Int) (bv:Value) (xs:List (Sp.Bl→Sp.Bl)) (ct3:Int × Int) (hk:k<6) (h:RpAn.S (ptUp ct) v x ct1) (h':RpAn.S ct1 u y ct2) (hb:Blk StA ct2 lo hi w bv xs ct3) :
  StA ct lo hi w (.iface 293 (.agg #[.int .i64 ct.1,.int .i64 (k:Nat),v,u,bv])) (Sp.Bl.loop k x y (Sp.joinB xs)) ct3:=by
 obtain ⟨⟨tl,ul,rfl⟩,hs,sx,okx,rfl⟩:=h
 obtain ⟨⟨tr,ur,rfl⟩,hs',sy,oky,rfl⟩:=h'
 obtain ⟨av,nv,cv,rfl⟩:=blk_slice hb
 have B:=blk_an hb
 have hc:=cond_an k hk tl ul tr ur x y _ okx oky sx sy hs hs'
 have hcw:∀ π,Sp.CondWf (Kr π) (Sp.anC (Dm π) k x y (Sp.ptUp ct)):=fun π s hs=>Sp.anC_wf okx oky hs
 have hbw:∀ π P,Sp.BodyWf (Kr π) (Sp.anB (Dm π) P (Sp.joinB xs) (Sp.cS y (Sp.cS x (Sp.ptUp ct)))):=fun π P s hs=>Sp.anB_wf P _ B.ok _ s hs
 have hbn:∀ π P,Sp.BodyNo (D:=Dm π) (Sp.anB (Dm π) P (Sp.joinB xs) (Sp.cS y (Sp.cS x (Sp.ptUp ct)))):=fun π P=>Sp.anB_none P _ _
 refine ⟨⟨_,_,rfl,mw_while _ _ _ _ _⟩,fun π P e=>Sp.anW (Dm π) P (Sp.anC (Dm π) k x y (Sp.ptUp ct)) (Sp.anB (Dm π) P (Sp.joinB xs) (Sp.cS y (Sp.cS x (Sp.ptUp ct)))) ct.1 (some e),?_,?_,?_,?_,?_,?_⟩
 ·intro rest; rw [← B.cb]; rfl
 ·intro rest hr; exact Sp.okB_app (Sp.okB_app (Sp.okB_app okx oky) B.ok) hr
 ·intro π P rest s; rw [← B.cb]; rfl
 ·intro π P e hwe; exact Sp.anW_wf (K:=Kr π) (hcw π) (hbw π P) rfl (hbn π P) _ (Sp.Wf.some hwe)
 ·intro π P T rest hl; rw [← B.cb]; exact ⟨⟨hl.1,hl.2.1,trivial⟩,hl.2.2⟩
 ·intro C π T F b W e hso hhB hnar hunr hlp ha hwe hr
  have hp:=hlp.1.1
  have hT:T ct.1 (some e)=Sp.anW (Dm π) C.pol (Sp.anC (Dm π) k x y (Sp.ptUp ct)) (Sp.anB (Dm π) C.pol (Sp.joinB xs) (Sp.cS y (Sp.cS x (Sp.ptUp ct)))) ct.1 (some e):=hlp.1.2 (some e)
  have hpt:b=true→0≤ct.1∧ct.1.toNat<F.1.length:=fun hb=>by
   obtain ⟨s',hs'⟩:=Sp.anW_point (K:=Kr π) (P:=C.pol) (hcw π) (hbw π C.pol) ct.1 hwe
   exact hr hb _ hs'
  have hl:=loop_calls ct.1 hp k tl ul tr ur av nv cv C π T F b
  refine stmt_while ct.1 k tl ul tr ur av nv cv C π T F b W e _ _ ha (fun W' hk' ha'=>?_)
  have hlw:=hl W' (some e) ha' (Sp.Wf.some hwe) (fun W2 hk2 ha2=>by
   rw [hT]
   exact around_calls ct.1 k tl ul tr ur av nv cv _ _ (fun s=>Sp.allV (Dm π) C.pol (Sp.anC (Dm π) k x y (Sp.ptUp ct)) (Sp.anB (Dm π) C.pol (Sp.joinB xs) (Sp.cS y (Sp.cS x (Sp.ptUp ct)))) s) C π T F b W2 (some e) _ ha2 (Sp.Wf.some hwe) rfl
    (fun F' W3 s' h3 hs' hr'=>hc C π T F' b W3 s' h3 hs' hr') (hcw π) (hbw π C.pol) (B.calls C π T b W2 ((hk'.trans hk2).same hso hhB) hhB hnar hunr hlp.2.1)
    (fun F' W3 s' h3 ha3 hs'=>all_calls ct.1 k tl ul tr ur av nv cv x y (Sp.ptUp ct) _ C π T F' b W3 s' ha3 hs' hc (hcw π) (hbw π C.pol) (hbn π C.pol) (B.calls C π T false W3 (((hk'.trans hk2).trans h3).same hso hhB) hhB hnar hunr hlp.2.1) hnar)
    (fun s' hs'=>Sp.allV_wf (hcw π) (hbw π C.pol) rfl (hbn π C.pol) hs') hunr hpt hr)
  rw [hT] at hlw
  exact hlw
def RtAn:RepT Sp.Tr RpAn where
 T:=StA
 mono:=by
  intro ct ct' lo hi lo' hi' w w' v x h hl hh hs
  obtain ⟨h1,G,hG⟩:=h
  refine ⟨h1,G,hG.cb,hG.ok,hG.eq,hG.wf,hG.lp,?_⟩
  intro C π T F b W e hso hhB
  exact hG.calls C π T F b W e (fun k h1 h2 hn=>(hso k (by omega) (by omega) (by rw [hs k h1 h2 hn]; exact hn)).trans (hs k h1 h2 hn)) (by omega)
 iface h:=by
  obtain ⟨⟨t,u,e,_⟩,_⟩:=h
  exact ⟨t,u,e⟩
 assign:=st_assign
 read:=st_read
 assert:=st_assert
 ite:=st_ite
 iteElse:=st_iteElse
 loop:=st_loop
end WC
end Go.Proofs.YtiopfihjmkfdmaaGreatDoor
namespace Go.Proofs.YtiopfihjmkfdmaaGreatDoor
namespace WC
open Go.RowKit
set_option maxRecDepth 100000
set_option maxHeartbeats 2000000
abbrev fcA (r:Bool) (l:List (Int × Int)):Array Value:=stA (fun v:Int × Int=>.int .i64 v.1) (fun v:Int × Int=>.int .i64 v.2) r l
def zeroF:List (Int × Int):=List.replicate 8 (0,0)
def toldV (s:ST):Bool × List (Int × Int):=match s with
 | none=>(false,zeroF)
 | some e=>(true,List.ofFn fun k=>vTell (e k))
def fcC (s:ST):Array Value:=fcA (toldV s).1 (toldV s).2
theorem toldV_len (s:ST):(toldV s).2.length=8:=by cases s <;> simp [toldV,zeroF]
theorem fcC_size (s:ST):(fcC s).size=17:=stA_size _ _ (toldV_len s)
theorem fcC_one (s:ST):(fcC s).all (·.oneCell')=true:=stA_one _ _ (fun _=>rfl) (fun _=>rfl) _ _
theorem infoFc:(Tryz.prog.info? 76).map (·.size)=some 17:=by kernel_rfl
theorem infoVs:(Tryz.prog.info? 201).map (·.size)=some 16:=by kernel_rfl
def vaA (e:Fin 8→Sp.Cg):Array Value:=(flat (fun v:Sp.Cg=>.int .i64 ((v.m:Nat):Int)) (fun v:Sp.Cg=>.int .i64 v.r) (List.ofFn e)).toArray
theorem index_v (e:Fin 8→Sp.Cg) (w:World):∀ (j:Nat) (hj:j<8),(Instr.index 201 (.agg (vaA e)) (.int .i64 (j:Nat))).run Tryz.prog w=.ok (.agg #[.int .i64 (((e ⟨j,hj⟩).m:Nat):Int),.int .i64 (e ⟨j,hj⟩).r]) w
 | 0,_=>by kernel_rfl
 | 1,_=>by kernel_rfl
 | 2,_=>by kernel_rfl
 | 3,_=>by kernel_rfl
 | 4,_=>by kernel_rfl
 | 5,_=>by kernel_rfl
 | 6,_=>by kernel_rfl
 | 7,_=>by kernel_rfl
structure FcAt (w:World) (xa:Array Value) (l:List (Int × Int)) (W:World):Prop where
 s:W.heap[w.heap.size]?=some (.cells xa 203)
 z:W.heap[w.heap.size + 1]?=some (.cells (fcA false zeroF) 76)
 x:W.heap[w.heap.size + 1 + 1]?=some (.cells (fcA true l) 76)
 b:Below w.heap.size w W
theorem FcAt.call {w:World} {xa:Array Value} {l:List (Int × Int)} {W W':World} (h:FcAt w xa l W) (k:Below W.heap.size W W'):FcAt w xa l W' :=
 ⟨(k.block _ (heap_lt h.s)).trans h.s,(k.block _ (heap_lt h.z)).trans h.z,(k.block _ (heap_lt h.x)).trans h.x,h.b.trans (k.mono h.b.size)⟩
theorem FcAt.set {w:World} {xa:Array Value} {l:List (Int × Int)} {W:World} (h:FcAt w xa l W) {j:Nat} (hj:j<l.length) (v:Int × Int):FcAt w xa (l.set j v) ((W.setCell ⟨w.heap.size + 1 + 1,1 + j * 2,none⟩ (.int .i64 v.1)).setCell ⟨w.heap.size + 1 + 1,1 + j * 2 + 1,none⟩ (.int .i64 v.2)):=by
 have e1:w.heap.size ≠ w.heap.size + 1 + 1:=by omega
 have e2:w.heap.size + 1 ≠ w.heap.size + 1 + 1:=by omega
 refine ⟨?_,?_,?_,(h.b.setCell (p:=⟨w.heap.size + 1 + 1,1 + j * 2,none⟩) (by show w.heap.size≤w.heap.size + 1 + 1; omega) _).setCell (p:=⟨w.heap.size + 1 + 1,1 + j * 2 + 1,none⟩) (by show w.heap.size≤w.heap.size + 1 + 1; omega) _⟩
 ·rw [Below.heap_setCell _ _ _ _ e1,Below.heap_setCell _ _ _ _ e1]; exact h.s
 ·rw [Below.heap_setCell _ _ _ _ e2,Below.heap_setCell _ _ _ _ e2]; exact h.z
 ·rw [heap_setCell_at (heap_setCell_at h.x (1 + j * 2) (.int .i64 v.1)) (1 + j * 2 + 1) (.int .i64 v.2)]
  congr 2
  exact stA_set (fun v:Int × Int=>.int .i64 v.1) (fun v:Int × Int=>.int .i64 v.2) v hj
def fillT (e:Fin 8→Sp.Cg) (j:Nat):List (Int × Int):=(List.ofFn fun k=>vTell (e k)).take j ++ List.replicate (8 - j) (0,0)
theorem fillT_len (e:Fin 8→Sp.Cg) {j:Nat} (h:j≤8):(fillT e j).length=8:=by unfold fillT; simp; omega
theorem fillT_set (e:Fin 8→Sp.Cg) {j:Nat} (h:j<8):(fillT e j).set j (vTell (e ⟨j,h⟩))=fillT e (j + 1):=by
 have hl:((List.ofFn fun k=>vTell (e k)).take j).length=j:=by simp; omega
 have hg:(List.ofFn fun k=>vTell (e k))[j]?=some (vTell (e ⟨j,h⟩)):=by rw [List.getElem?_ofFn,dif_pos h]
 have hk:=List.getElem?_eq_some_iff.1 hg
 unfold fillT
 rw [List.set_append_right _ _ (by omega),hl,Nat.sub_self,show 8 - j=(8 - (j + 1)) + 1 by omega,List.replicate_succ,List.set_cons_zero,List.take_succ_eq_append_getElem hk.1,hk.2,List.append_assoc]
 rfl
theorem fillT_end (e:Fin 8→Sp.Cg):fillT e 8=List.ofFn fun k=>vTell (e k):=by
 unfold fillT
 rw [List.take_of_length_le (by simp)]
 simp
theorem range_va {w:World} {b:Nat} {e:Fin 8→Sp.Cg} (h:w.heap[b]?=some (.cells (stC (some e)) 203)):w.rangeAt b 1 (vaA e).toList:=fun j v hv=>by
 refine cell_of h _ ?_
 have:(stC (some e)).toList=.bool true :: (vaA e).toList:=rfl
 rw [← Array.getElem?_toList,this,Nat.add_comm 1 j,List.getElem?_cons_succ]
 exact hv
theorem wp_ldV {ops:Array Oper} {rest:List Oper} {op:Oper} {a:Act} {w:World} {Q:Exit→Act→World→Prop} (hgd:op.guard=none) (x:Operand) (ho:op.op=.load 201 x) {b:Nat} {va:Array Value} (hx:a.eval x=.pointer (some ⟨b,1,none⟩)) (h:w.rangeAt b 1 va.toList) (hc:va.size=16)
  (k:wpList Tryz.prog ops Q rest (a.put op.dst (.agg va)) w):wpList Tryz.prog ops Q (op :: rest) a w:=by
 refine wpList_load_mid hgd 201 x ho b 1 hx va.toList _ h Tryz.underlying201 rfl (by rw [infoVs]; simp [hc]) ?_
 simpa using k
theorem wp_ldF {ops:Array Oper} {rest:List Oper} {op:Oper} {a:Act} {w:World} {Q:Exit→Act→World→Prop} (hgd:op.guard=none) (x:Operand) (ho:op.op=.load 76 x) {b:Nat} {c:Array Value} (hx:a.eval x=.pointer (some ⟨b,0,none⟩)) (h:w.heap[b]?=some (.cells c 76)) (hc:c.size=17)
  (k:wpList Tryz.prog ops Q rest (a.put op.dst (.agg c)) w):wpList Tryz.prog ops Q (op :: rest) a w:=by
 refine wpList_load_mid hgd 76 x ho b 0 hx c.toList _ (range_of h) Tryz.underlying76 rfl (by rw [infoFc]; simp [hc]) ?_
 simpa using k
theorem wp_stF {ops:Array Oper} {rest:List Oper} {op:Oper} {a:Act} {w:World} {Q:Exit→Act→World→Prop} (hgd:op.guard=none) (x y:Operand) (ho:op.op=.store 76 x y) {b o:Nat} {d:Array Value} (hx:a.eval x=.pointer (some ⟨b,o,none⟩)) (hy:a.eval y=.agg d) (h:w.there b o 17) (hd:d.size=17) (h1:d.all (·.oneCell')=true)
  (k:wpList Tryz.prog ops Q rest (a.put op.dst undef) (w.setCells b o d.toList)):wpList Tryz.prog ops Q (op :: rest) a w :=
 wpList_plain hgd fun _ hK=>wp_store_mid 76 x y ho b o d hx hy (by rw [hd]; exact h) (by rw [infoFc,hd]) h1 (hK _ _ k)
theorem loadV_fc {w:World} {b:Nat} {c:Array Value} {fr:Nat × Nat} (h:w.heap[b]?=some (.cells c 76 fr)) (hc:c.size=17) :
  (loadVar 76 ⟨b,0,none⟩).run Tryz.prog w=.ok (.agg c) w:=by
 have:=run_loadVar_mid (P:=Tryz.prog) w b 0 76 c.toList _ (fun j v hv=>by rw [Nat.zero_add]; exact cell_of h j (by simpa using hv)) Tryz.underlying76 rfl (by rw [infoFc]; simp [hc])
 simpa using this
theorem results_fc {fn:Func} {a:Tmp} (hres:fn.results=#[.cell a 76]) (tmps:Array Value) (w:World) {b:Nat} {c:Array Value} (ht:tmps.getD a undef=.pointer (some ⟨b,0,none⟩)) (h:w.heap[b]?=some (.cells c 76)) (hc:c.size=17) :
  (results fn tmps).run Tryz.prog w=.ok (.agg c) w:=by
 have hl:=loadV_fc h hc
 have ht':tmps[a]?.getD undef=.pointer (some ⟨b,0,none⟩):=by rw [← ht]; simp
 unfold results
 rw [hres]
 simp [asAddr,ht',hl]
theorem fact_calls {B:Nat} {π:Par} (dv:Value) (e:Fin 8→Sp.Cg) (w:World) (hd:Does B π dv w) (he:∀ k,Wv (e k)) :
  Calls Tryz.prog 114 #[.iface 128 dv,.agg (stC (some e))] w fun r w'=>r=.returned (.agg (fcC (some e)))∧Below w.heap.size w w':=by
 have HTL:Hid (∀ W j (hj:j<8),Below w.heap.size w W→Calls _ _ _ W _):=fun W j hj hb=>dTell (B:=B) (π:=π) (dv:=dv) (hd.below (hb.mono hd.size)) (he ⟨j,hj⟩)
 have HIX:Hid (∀ j (hj:j<8) w,_):=fun j hj w=>index_v e w j hj
 have v16:(vaA e).size=16:=by unfold vaA; rw [List.size_toArray,flat_len]; simp
 have hrv:=fun (W:World) b=>range_va (w:=W) (b:=b) (e:=e)
 have HRV:Hid (∀ (W:World) b,_→_):=hrv
 have x17:=stC_size (some e)
 generalize stC (some e)=xa at *
 generalize vaA e=va at *
 have H0:Hid (FcAt w xa (fillT e 0) (((w.alloc (.cells xa 203)).alloc (.cells (fcA false zeroF) 76)).alloc (.cells (fcA true (fillT e 0)) 76))):=by
  obtain ⟨k0,k1,k2,kb⟩:=laid3b (w:=w) (o1:=.cells xa 203) (o2:=.cells (fcA false zeroF) 76) (o3:=.cells (fcA true (fillT e 0)) 76) (Below.refl _ _)
  exact ⟨k0,k1,k2,kb⟩
 have HR0:=HRV.out _ _ H0.out.s
 have HR:Hid (World.rangeAt _ _ _ _):=HR0
 clear HR0 hrv hd
 go_enter Tryz.func114,Tryz.ntmps114
 go_wp2_with (first
  | (refine wp_ldV rfl _ rfl rfl (by exact HR.out) v16 ?_))
 change Code.wp _ _ _ _ (((w.alloc (.cells xa 203)).alloc (.cells (fcA false zeroF) 76)).alloc (.cells (fcA true (fillT e 0)) 76))
 generalize ((w.alloc (.cells xa 203)).alloc (.cells (fcA false zeroF) 76)).alloc (.cells (fcA true (fillT e 0)) 76)=W0 at *
 go_loopw [11] (fun v11 wr=>∃ j:Nat,j≤8∧v11=.int .i64 j∧Hid (FcAt w xa (fillT e j) wr)) (fun v11 _=>8 - (intOf v11).toNat)
 case atStart=>exact ⟨0,Nat.zero_le _,rfl,H0.out⟩
 case round =>
  obtain ⟨j,hj,rfl,hq⟩:=hrel
  clear H0 HR
  by_cases hjlt:j<8
  ·have hix:=HIX.out j hjlt
   have hji:(j:Int)<8:=by omega
   have hme:∀ w,(method 587 128 dv "Tell").run Tryz.prog w=.ok (302,dv) w:=fun w=>by kernel_rfl
   have kb:=below_alloc1 wr (.cells #[.int .i64 (((e ⟨j,hjlt⟩).m:Nat):Int),.int .i64 (e ⟨j,hjlt⟩).r] 126)
   have h1:=hq.out.call kb
   have HC:=HTL.out _ j hjlt h1.b
   have H1:Hid (FcAt w xa (fillT e j) _):=h1
   clear kb h1
   go_wp2_with fail
   refine HC.mono ?_
   rintro r w1 ⟨rfl,b1⟩
   have h2:=H1.out.call b1
   obtain ⟨x,hxj⟩:∃ x,(fillT e j)[j]?=some x:=⟨_,List.getElem?_eq_getElem (by rw [fillT_len _ hj]; omega)⟩
   have y0:=cell_of h2.x _ (stA_get (fun v:Int × Int=>.int .i64 v.1) (fun v:Int × Int=>.int .i64 v.2) hxj).1
   have y1:=cell_of h2.x _ (stA_get (fun v:Int × Int=>.int .i64 v.1) (fun v:Int × Int=>.int .i64 v.2) hxj).2
   have f0:=frozen_of h2.x (1 + j * 2)
   have f1:=frozen_of h2.x (1 + j * 2 + 1)
   have A3:Hid (FcAt w xa (fillT e (j + 1)) ((w1.setCell ⟨w.heap.size + 1 + 1,1 + j * 2,none⟩ (.int .i64 (vTell (e ⟨j,hjlt⟩)).1)).setCell ⟨w.heap.size + 1 + 1,1 + j * 2 + 1,none⟩ (.int .i64 (vTell (e ⟨j,hjlt⟩)).2))):=by
    unfold Hid; rw [← fillT_set e hjlt]; exact h2.set (by rw [fillT_len _ hj]; omega) _
   clear hxj h2 b1 HC H1 hix
   go_wp2_with fail
   exact ⟨⟨j + 1,by omega,by go_num,A3⟩,by simp [intOf]; omega⟩
  ·obtain rfl:j=8:=by omega
   have hx:=hq.out.x
   have f17:=fcC_size (some e)
   have f1o:=fcC_one (some e)
   have e8:fcA true (fillT e 8)=fcC (some e):=by rw [fillT_end]; rfl
   rw [e8] at hx
   generalize hfa:fcC (some e)=fa at *
   have HFA:Hid (_=fa):=hfa
   have HX:Hid (_=_):=hx
   have hr:Hid (_=_):=setCells_whole hq.out.z (d:=fa) (by rw [f17]; rfl)
   have HB:Hid (Below w.heap.size w _):=setCells_below (b:=w.heap.size + 1) (by omega) fa.toList 0 w _ hq.out.b
   have HTH:Hid (World.there _ _ _ _):=there_of hq.out.z
   clear hfa hx e8 hj hjlt
   go_wp2_with (first
    | (refine wp_ldF rfl _ rfl rfl HX.out f17 ?_)
    | (refine wp_stF rfl _ _ rfl rfl rfl HTH.out f17 f1o ?_))
   refine bodyPost_ret (results_fc Tryz.results114 _ _ rfl hr.out f17) rfl ⟨by rw [HFA.out],HB.out⟩
end WC
end Go.Proofs.YtiopfihjmkfdmaaGreatDoor
namespace Go.Proofs.YtiopfihjmkfdmaaGreatDoor
namespace WC
open Go.RowKit
set_option maxRecDepth 100000
set_option maxHeartbeats 2000000
theorem made_chunk {α:Type} {f:α→List Value} {k n:Nat} {a:α} {z:Array Value} (hz:f a=z.toList) (hk:∀ a,(f a).length=k) (hk0:0<k):madeCells z (n * k)=((List.replicate n a).flatMap f).toArray:=by
 have hs:z.size=k:=by rw [← Array.length_toList,← hz,hk]
 refine Array.ext_getElem? fun i=>?_
 have er:((List.replicate n a).flatMap f).toArray[i]?=((List.replicate n a).flatMap f)[i]?:=List.getElem?_toArray
 rw [er]
 by_cases hi:i<n * k
 ·have e:i=i / k * k + i % k:=by rw [Nat.mul_comm]; exact (Nat.div_add_mod i k).symm
  have h1:i / k<n:=Nat.div_lt_of_lt_mul (by rw [Nat.mul_comm]; exact hi)
  have h2:i % k<k:=Nat.mod_lt _ hk0
  have h3:=chunk_get hk (List.replicate n a) (i / k) a (i % k) (by rw [List.getElem?_replicate,if_pos h1]) h2
  rw [← e] at h3
  rw [h3,hz]
  unfold madeCells
  rw [Array.getElem?_map,Array.getElem?_range,if_pos hi]
  simp only [Option.map_some]
  rw [hs,Array.getElem?_toList,getElem!_pos z (i % k) (by omega),Array.getElem?_eq_getElem (by omega)]
 ·rw [Array.getElem?_eq_none (by rw [size_madeCells]; omega),List.getElem?_eq_none (by rw [chunk_len hk,List.length_replicate]; omega)]
def fcCells (fs:List ST):List Value:=fs.flatMap fun s=>(fcC s).toList
theorem fcC_len (s:ST):(fcC s).toList.length=17:=by rw [Array.length_toList]; exact fcC_size s
theorem infoF3:(Tryz.prog.info? 76).map (fun i=>(i.zero,i.size,i.bytes))=some (some (.agg (fcC none)),17,136):=by kernel_rfl
theorem make_facts (n:Nat) (hn:n≤1000000) (w:World):(Instr.makeSlice 62 (.int .i64 (n:Nat)) (.int .i64 (n:Nat))).run Tryz.prog w=.ok (.slice (some ⟨w.heap.size,0,none⟩) n n) (w.alloc (.cells (fcCells (List.replicate n none)).toArray 76)):=by
 obtain ⟨i,hi,hz⟩:=Option.map_eq_some_iff.1 infoF3
 simp only [Prod.mk.injEq] at hz
 obtain ⟨h1,h2,h3⟩:=hz
 have:=run_make (P:=Tryz.prog) w 62 76 i _ Tryz.underlying62 hi h1 .i64 .i64 n n (by omega) (Int.le_refl _) (by rw [h3]; omega) (by omega)
 rw [this,h2]
 simp only [Int.toNat_natCast]
 congr 4
 exact made_chunk (f:=fun s=>(fcC s).toList) (a:=none) (z:=fcC none) rfl fcC_len (by omega)
def mixF (fs:List ST) (j:Nat):List ST:=fs.take j ++ List.replicate (fs.length - j) none
theorem mixF_len (fs:List ST) {j:Nat} (h:j≤fs.length):(mixF fs j).length=fs.length:=by unfold mixF; simp; omega
theorem mixF_set (fs:List ST) {j:Nat} (h:j<fs.length) {s:ST} (hs:fs[j]?=some s):(mixF fs j).set j s=mixF fs (j + 1):=by
 have hl:(fs.take j).length=j:=by simp; omega
 have hk:=List.getElem?_eq_some_iff.1 hs
 unfold mixF
 rw [List.set_append_right _ _ (by omega),hl,Nat.sub_self,show fs.length - j=(fs.length - (j + 1)) + 1 by omega,List.replicate_succ,List.set_cons_zero,List.take_succ_eq_append_getElem hk.1,hk.2,List.append_assoc]
 rfl
theorem mixF_none (fs:List ST) {j:Nat} (h:j<fs.length) (hs:fs[j]?=some none):mixF fs (j + 1)=mixF fs j:=by
 have hl:(fs.take j).length=j:=by simp; omega
 have hk:=List.getElem?_eq_some_iff.1 hs
 unfold mixF
 rw [show fs.length - j=(fs.length - (j + 1)) + 1 by omega,List.replicate_succ,List.take_succ_eq_append_getElem hk.1,hk.2,List.append_assoc]
 rfl
theorem mixF_end (fs:List ST):mixF fs fs.length=fs:=by unfold mixF; simp
structure FsAt (B:Nat) (π:Par) (dv:Value) (gf:Nat) (w:World) (fs l:List ST) (W:World):Prop where
 d:Does B π dv W
 g:W.heap[gf]?=some (.cells (factCells fs).toArray 203)
 x:W.heap[w.heap.size]?=some (.cells (fcCells l).toArray 76)
 b:Below w.heap.size w W
theorem FsAt.call {B:Nat} {π:Par} {dv:Value} {gf:Nat} {w:World} {fs l:List ST} {W W':World} (h:FsAt B π dv gf w fs l W) (k:Below W.heap.size W W'):FsAt B π dv gf w fs l W' :=
 ⟨h.d.below (k.mono h.d.size),(k.block _ (heap_lt h.g)).trans h.g,(k.block _ (heap_lt h.x)).trans h.x,h.b.trans (k.mono h.b.size)⟩
theorem FsAt.set {B:Nat} {π:Par} {dv:Value} {gf:Nat} {w:World} {fs l:List ST} {W:World} (h:FsAt B π dv gf w fs l W) (hB:B≤w.heap.size) (hg:gf<w.heap.size) {j:Nat} (hj:j<l.length) (s:ST):FsAt B π dv gf w fs (l.set j s) (W.setCells w.heap.size (j * 17) (fcC s).toList):=by
 have hb:Below w.heap.size w (W.setCells w.heap.size (j * 17) (fcC s).toList):=setCells_below (b:=w.heap.size) (Nat.le_refl _) _ _ _ _ h.b
 have hb':Below w.heap.size W (W.setCells w.heap.size (j * 17) (fcC s).toList):=setCells_below (b:=w.heap.size) (Nat.le_refl _) _ _ _ _ (Below.refl _ _)
 refine ⟨h.d.below (hb'.mono hB),(setCells_other _ _ _ _ (by omega)).trans h.g,?_,hb⟩
 obtain ⟨c',h1,h2,h3,h4⟩:=setCells_block (fcC s).toList (j * 17) W (fcCells l).toArray h.x (by
  rw [fcC_len,List.size_toArray]
  unfold fcCells
  rw [chunk_len fcC_len]
  have:(j + 1) * 17≤l.length * 17:=Nat.mul_le_mul_right _ hj
  omega)
 rw [h1]
 congr 2
 refine Array.ext_getElem? fun i=>?_
 have e2:(fcCells (l.set j s)).toArray[i]?=((l.set j s).flatMap fun s=>(fcC s).toList)[i]?:=List.getElem?_toArray
 rw [e2,chunk_set fcC_len l j s i hj]
 by_cases hi:j * 17≤i∧i<j * 17 + 17
 ·rw [if_pos hi]
  have:=h3 (i - j * 17) (by rw [fcC_len]; omega)
  rw [show j * 17 + (i - j * 17)=i by omega] at this
  exact this
 ·rw [if_neg hi,h4 i (by rw [fcC_len]; omega),List.getElem?_toArray]
  rfl
theorem FsAt.there {B:Nat} {π:Par} {dv:Value} {gf:Nat} {w:World} {fs l:List ST} {W:World} (h:FsAt B π dv gf w fs l W) {j:Nat} (hj:j<l.length):W.there w.heap.size (j * 17) 17:=by
 intro i hi
 refine ⟨?_,frozen_of h.x _⟩
 have hl:j * 17 + i<(fcCells l).toArray.size:=by
  rw [List.size_toArray]
  unfold fcCells
  rw [chunk_len fcC_len]
  have:(j + 1) * 17≤l.length * 17:=Nat.mul_le_mul_right _ hj
  omega
 rw [cell_of h.x _ (Array.getElem?_eq_getElem hl)]
 rfl
theorem state_range {w:World} {gf:Nat} {fs:List ST} (h:w.heap[gf]?=some (.cells (factCells fs).toArray 203)) {p:Nat} {f:ST} (hp:fs[p]?=some f):w.rangeAt gf (p * 17) (stC f).toList:=by
 intro j v hv
 have hj:j<17:=by
  have:=(List.getElem?_eq_some_iff.1 hv).1
  rw [stC_len] at this
  exact this
 refine cell_of h _ ?_
 rw [List.getElem?_toArray]
 show (fs.flatMap fun s=>(stC s).toList)[p * 17 + j]?=some v
 rw [chunk_get stC_len fs p f j hp hj]
 exact hv
theorem wp_ldO {ops:Array Oper} {rest:List Oper} {op:Oper} {a:Act} {w:World} {Q:Exit→Act→World→Prop} (hgd:op.guard=none) (x:Operand) (ho:op.op=.load 203 x) {b o:Nat} {c:Array Value} (hx:a.eval x=.pointer (some ⟨b,o,none⟩)) (h:w.rangeAt b o c.toList) (hc:c.size=17)
  (k:wpList Tryz.prog ops Q rest (a.put op.dst (.agg c)) w):wpList Tryz.prog ops Q (op :: rest) a w:=by
 refine wpList_load_mid hgd 203 x ho b o hx c.toList _ h Tryz.underlying203 rfl (by rw [infoSt]; simp [hc]) ?_
 simpa using k
theorem one_newF (w:World) (u:Array Value) (h:u.size=17) :
  (w.alloc (.cells #[.bool false,.int .i64 0,.int .i64 0,.int .i64 0,.int .i64 0,.int .i64 0,.int .i64 0,.int .i64 0,.int .i64 0,.int .i64 0,.int .i64 0,.int .i64 0,.int .i64 0,.int .i64 0,.int .i64 0,.int .i64 0,.int .i64 0] 203)).heap[w.heap.size]?=some (.cells #[.bool false,.int .i64 0,.int .i64 0,.int .i64 0,.int .i64 0,.int .i64 0,.int .i64 0,.int .i64 0,.int .i64 0,.int .i64 0,.int .i64 0,.int .i64 0,.int .i64 0,.int .i64 0,.int .i64 0,.int .i64 0,.int .i64 0] 203) ∧
  ((w.alloc (.cells #[.bool false,.int .i64 0,.int .i64 0,.int .i64 0,.int .i64 0,.int .i64 0,.int .i64 0,.int .i64 0,.int .i64 0,.int .i64 0,.int .i64 0,.int .i64 0,.int .i64 0,.int .i64 0,.int .i64 0,.int .i64 0,.int .i64 0] 203)).setCells w.heap.size 0 u.toList).heap[w.heap.size]?=some (.cells u 203) ∧
  Below w.heap.size w ((w.alloc (.cells #[.bool false,.int .i64 0,.int .i64 0,.int .i64 0,.int .i64 0,.int .i64 0,.int .i64 0,.int .i64 0,.int .i64 0,.int .i64 0,.int .i64 0,.int .i64 0,.int .i64 0,.int .i64 0,.int .i64 0,.int .i64 0,.int .i64 0] 203)).setCells w.heap.size 0 u.toList):=by
 have a1:=heap_alloc_new w (.cells #[.bool false,.int .i64 0,.int .i64 0,.int .i64 0,.int .i64 0,.int .i64 0,.int .i64 0,.int .i64 0,.int .i64 0,.int .i64 0,.int .i64 0,.int .i64 0,.int .i64 0,.int .i64 0,.int .i64 0,.int .i64 0,.int .i64 0] 203)
 exact ⟨a1,setCells_whole a1 (by rw [h]; rfl),setCells_below (Nat.le_refl _) _ _ _ _ (below_alloc1 w _)⟩
theorem facts_calls {B:Nat} {π:Par} (dv:Value) (gf cf:Nat) (fs:List ST) (w:World) (hd:Does B π dv w) (hg:w.heap[gf]?=some (.cells (factCells fs).toArray 203)) (hw:∀ s ∈ fs,Sp.Wf (Kr π) s) (hn:fs.length≤1000000) :
  Calls Tryz.prog 81 #[.iface 128 dv,.slice (some ⟨gf,0,none⟩) fs.length cf] w fun r w'=>r=.returned (.slice (some ⟨w.heap.size,0,none⟩) fs.length fs.length)∧w'.heap[w.heap.size]?=some (.cells (fcCells fs).toArray 76)∧Below w.heap.size w w':=by
 have hmk:=make_facts fs.length hn
 have HFC:Hid (∀ W (e:Fin 8→Sp.Cg),Does B π dv W→(∀ k,Wv (e k))→Calls _ _ _ W _):=fun W e hW he=>fact_calls (π:=π) dv e W hW he
 have hgl:=heap_lt hg
 have hB:=hd.size
 have H0:Hid (FsAt B π dv gf w fs (mixF fs 0) (w.alloc (.cells (fcCells (List.replicate fs.length none)).toArray 76))):=by
  have kb:=below_alloc1 w (.cells (fcCells (List.replicate fs.length none)).toArray 76)
  exact ⟨hd.below (kb.mono hB),(kb.block _ hgl).trans hg,heap_alloc_new _ _,kb⟩
 have HW:Hid (∀ s ∈ fs,Sp.Wf (Kr π) s):=hw
 have hnl:(fs.length:Int)≤1000000:=by omega
 clear hd hg hw
 go_enter Tryz.func81,Tryz.ntmps81
 go_wp2_with fail
 generalize w.alloc (.cells (fcCells (List.replicate fs.length none)).toArray 76)=W0 at *
 clear hmk
 go_loopw [13] (fun v13 wr=>∃ j:Nat,j≤fs.length∧v13=.int .i64 j∧Hid (FsAt B π dv gf w fs (mixF fs j) wr)) (fun v13 _=>fs.length - (intOf v13).toNat)
 case atStart=>exact ⟨0,Nat.zero_le _,rfl,H0.out⟩
 case round =>
  obtain ⟨j,hj,rfl,hq⟩:=hrel
  clear H0
  by_cases hjlt:j<fs.length
  ·obtain ⟨f,hf⟩:∃ f,fs[j]?=some f:=⟨_,List.getElem?_eq_getElem hjlt⟩
   have hji:((j:Nat):Int)<((fs.length:Nat):Int):=by omega
   have HRG:Hid (World.rangeAt _ _ _ _):=state_range hq.out.g hf
   have hwf:=HW.out f (List.mem_of_getElem? hf)
   obtain ⟨xa,hxa⟩:∃ xa,xa=stC f:=⟨_,rfl⟩
   rw [← hxa] at HRG
   have x17:xa.size=17:=by rw [hxa]; exact stC_size f
   have x1:xa.all (·.oneCell')=true:=by rw [hxa]; exact stC_one f
   have hx0:xa[0]?=some (.bool f.isSome):=by rw [hxa]; cases f <;> rfl
   obtain ⟨t1,t2,tb⟩:=one_newF wr xa x17
   have T1:Hid (_=_):=t1
   have T2:Hid (_=_):=t2
   have H2:Hid (FsAt B π dv gf w fs (mixF fs j) _):=hq.out.call tb
   have c0:=cell_of t2 0 hx0
   have HXA:Hid (xa=stC f):=hxa
   have hjm:j * 17<9223372036854775807:=by omega
   clear t1 t2 tb hxa
   cases f with
   | none =>
    have hm:Hid (mixF fs (j + 1)=mixF fs j):=mixF_none fs hjlt hf
    go_wp2_with (first
     | (refine wp_ldO rfl _ rfl rfl HRG.out x17 ?_)
     | (refine wp_st rfl _ _ rfl rfl rfl (by exact T1.out) rfl x17 x1 ?_))
    exact ⟨⟨j + 1,by omega,by go_num,by rw [hm.out]; exact H2⟩,by simp [intOf]; omega⟩
   | some e =>
    have hm:Hid ((mixF fs j).set j (some e)=mixF fs (j + 1)):=mixF_set fs hjlt hf
    have hC:=HFC.out _ e H2.out.d (hwf e rfl)
    rw [← HXA.out] at hC
    have HC:Hid (Calls _ _ _ _ _):=hC
    have f17:=fcC_size (some e)
    have f1o:=fcC_one (some e)
    generalize hfa:fcC (some e)=fa at *
    have HFA:Hid (fcC (some e)=fa):=hfa
    clear hC hfa
    go_wp2_with (first
     | (refine wp_ldO rfl _ rfl rfl HRG.out x17 ?_)
     | (refine wp_st rfl _ _ rfl rfl rfl (by exact T1.out) rfl x17 x1 ?_)
     | (refine wp_ld rfl _ rfl rfl (by exact T2.out) x17 ?_))
    refine HC.out.mono ?_
    rintro r w1 ⟨rfl,b1⟩
    have h3:=H2.out.call b1
    have hlm:j<(mixF fs j).length:=by rw [mixF_len fs hj]; exact hjlt
    have HTH:Hid (World.there _ _ _ _):=h3.there hlm
    have H4:Hid (FsAt B π dv gf w fs (mixF fs (j + 1)) (w1.setCells w.heap.size (j * 17) fa.toList)):=by
     unfold Hid
     rw [← hm.out,← HFA.out]
     exact h3.set hB hgl hlm (some e)
    clear h3 b1 HC H2 T1 T2 c0 HRG
    go_wp2_with (first
     | (refine wp_stF rfl _ _ rfl rfl rfl HTH.out f17 f1o ?_))
    exact ⟨⟨j + 1,by omega,by go_num,H4⟩,by simp [intOf]; omega⟩
  ·obtain rfl:j=fs.length:=by omega
   have hx:=hq.out.x
   rw [mixF_end] at hx
   have HX:Hid (_=_):=hx
   have HB:Hid (Below w.heap.size w wr):=hq.out.b
   clear hx
   go_wp2_with fail
   go_ret
   exact ⟨rfl,HX.out,HB.out⟩
end WC
end Go.Proofs.YtiopfihjmkfdmaaGreatDoor
