import Derived.Test.YtiopfihjmkfdmaaGreatDoorX40
namespace Go.Proofs.YtiopfihjmkfdmaaGreatDoor
namespace WC
open Go.RowKit
set_option maxRecDepth 100000
set_option maxHeartbeats 2000000
theorem block_nil (C:Cx) (π:Par) (T:Tab) (F:Fd) (b:Bool) (w:World) (s:ST) (h:AnAt C π T F w) :
  Calls Tryz.prog 78 #[.agg (wk C b),.slice none 0 0,.agg (stC s)] w (Post C π T F b w [] s):=by
 obtain ⟨k0,k1,k2,kb⟩:=laid3b (w:=w) (o1:=.cells (wk C b) 200) (o2:=.cells (stC s) 203) (o3:=.cells #[.bool false,.int .i64 0,.int .i64 0,.int .i64 0,.int .i64 0,.int .i64 0,.int .i64 0,.int .i64 0,.int .i64 0,.int .i64 0,.int .i64 0,.int .i64 0,.int .i64 0,.int .i64 0,.int .i64 0,.int .i64 0,.int .i64 0] 203) (Below.refl _ _)
 have x17:=stC_size s
 have x1o:=stC_one s
 unfold Post
 rw [told_nil]
 generalize wk C b=wa at *
 generalize stC s=xa at *
 have HX:Hid (_=_):=k1
 have HZ:Hid (_=_):=k2
 have HB:Hid (Below w.heap.size w _):=kb
 have HA:Hid (AnAt C π T F w):=h
 have hr0:Hid (_=_):=setCells_whole k2 (d:=xa) (by rw [x17]; rfl)
 have HBf:Hid (Below w.heap.size w _):=setCells_below (b:=w.heap.size + 1 + 1) (by omega) xa.toList 0 w _ kb
 clear k0 k1 k2 kb h
 go_enter Tryz.func78,Tryz.ntmps78
 go_wp2_with fail
 refine wp_loop_rounds 1 ?_
 rw [rounds_succ]
 go_wp2_with (first
  | (refine wp_ld rfl _ rfl rfl HX.out x17 ?_)
  | (refine wp_st rfl _ _ rfl rfl rfl HZ.out rfl x17 x1o ?_))
 refine bodyPost_ret (results_st Tryz.results78 _ _ rfl hr0.out x17) rfl ⟨rfl,HA.out.call HBf.out,AKeep.of_below HBf.out HA.out.le⟩
theorem side_no {v:Value} {x:Sp.Sm} (hx:∀ k,x ≠ .name k) (h1:∃ t u,v=.iface t u) (h2:∀ w,(Instr.typeAssert v 277 275 true).run Tryz.prog w=.ok (.tuple #[.int .i64 0,.bool false]) w):SideIs v x:=by
 cases x with
 | name k=>exact absurd rfl (hx k)
 | num n=>exact ⟨h1,h2⟩
 | neg x=>exact ⟨h1,h2⟩
 | bin k x y=>exact ⟨h1,h2⟩
theorem ta_num_name (x:Value) (w:World):(Instr.typeAssert (.iface 226 x) 277 275 true).run Tryz.prog w=.ok (.tuple #[.int .i64 0,.bool false]) w:=by kernel_rfl
def RpAn:Rep Sp.Tr where
 S ct v x ct':=(∃ t u,v=.iface t u)∧SumAn v x ct∧SideIs v x∧Sp.OkS x∧Sp.cS x ct=ct'
 iface _ _ _ _ h:=h.1
 num ct n hn:=⟨⟨_,_,rfl⟩,num_an n ct hn,side_no (fun k h=>by cases h) ⟨_,_,rfl⟩ (ta_num_name _),fun m hm=>by
  have:=List.mem_singleton.1 hm
  subst this
  exact ⟨by omega,by omega⟩,rfl⟩
 name ct k hk:=⟨⟨_,_,rfl⟩,name_an k hk ct,⟨rfl,hk⟩,(fun m hm=>by cases hm),rfl⟩
 neg ct v x ct' h:=by
  obtain ⟨⟨t,u,rfl⟩,hs,_,ok,he⟩:=h
  exact ⟨⟨_,_,rfl⟩,neg_an t u x ct ok hs,side_no (fun k h=>by cases h) ⟨_,_,rfl⟩ (ta_neg_name _),ok,he⟩
 bin ct k v x ct1 u y ct2 hk h h':=by
  obtain ⟨⟨tl,ul,rfl⟩,hs,_,ok,rfl⟩:=h
  obtain ⟨⟨tr,ur,rfl⟩,hs',_,ok',rfl⟩:=h'
  have e:(if 3≤k then Sp.siteUp (Sp.cS x ct) else Sp.cS x ct)=Sp.cS x ct:=if_neg (by omega)
  refine ⟨⟨_,_,rfl⟩,bin_an k (by omega) 0 tl ul tr ur x y ct (fun h=>by omega) ok ok' hs (by rw [e]; exact hs'),side_no (fun k h=>by cases h) ⟨_,_,rfl⟩ (ta_bin_name _),Sp.okB_app ok ok',?_⟩
  show Sp.cS y (if 3≤k then Sp.siteUp (Sp.cS x ct) else Sp.cS x ct)=_
  rw [e]
 binSite ct k v x ct1 u y ct2 h3 hk h h':=by
  obtain ⟨⟨tl,ul,rfl⟩,hs,_,ok,rfl⟩:=h
  obtain ⟨⟨tr,ur,rfl⟩,hs',_,ok',rfl⟩:=h'
  have e:(if 3≤k then Sp.siteUp (Sp.cS x ct) else Sp.cS x ct)=Sp.siteUp (Sp.cS x ct):=if_pos h3
  refine ⟨⟨_,_,rfl⟩,bin_an k hk _ tl ul tr ur x y ct (fun _=>rfl) ok ok' hs (by rw [e]; exact hs'),side_no (fun k h=>by cases h) ⟨_,_,rfl⟩ (ta_bin_name _),Sp.okB_app ok ok',?_⟩
  show Sp.cS y (if 3≤k then Sp.siteUp (Sp.cS x ct) else Sp.cS x ct)=_
  rw [e]
  rfl
abbrev GF:=Par→Sp.Pol→(Fin 8→Sp.Cg)→List TelT × ST
structure StG (ct:Int × Int) (lo hi:Nat) (w:World) (v:Value) (f:Sp.Bl→Sp.Bl) (ct':Int × Int) (G:GF):Prop where
 cb:∀ rest,Sp.cB (f rest) ct=Sp.cB rest ct'
 ok:∀ rest,Sp.OkB rest→Sp.OkB (f rest)
 eq:∀ π P rest s,Sp.anB (Dm π) P (f rest) ct s=Sp.thenR (Dm π) (Sp.stP (Dm π) ct.1 (G π P) s) (Sp.anB (Dm π) P rest ct')
 wf:∀ π P e,(∀ k,Wv (e k))→Sp.Wf (Kr π) (G π P e).2
 lp:∀ π P T rest,Sp.LoopsB (Dm π) P T (f rest) ct→Sp.LoopsB (Dm π) P T (f .nil) ct∧Sp.LoopsB (Dm π) P T rest ct'
 calls:∀ (C:Cx) (π:Par) (T:Tab) (F:Fd) (b:Bool) (W:World) (e:Fin 8→Sp.Cg),SameOn lo hi w W→hi≤C.base→C.narrow≤1000→C.unroll≤1000→Sp.LoopsB (Dm π) C.pol T (f .nil) ct→AnAt C π T F W→(∀ k,Wv (e k))→Rng b F (G π C.pol e).1 →
  Calls Tryz.prog 112 #[.agg (wk C b),v,.agg (stC (some e))] W (Post C π T F b W (G π C.pol e).1 (G π C.pol e).2)
def StA (ct:Int × Int) (lo hi:Nat) (w:World) (v:Value) (f:Sp.Bl→Sp.Bl) (ct':Int × Int):Prop :=
 (∃ t u,v=.iface t u∧WhereAt t u ct.1)∧∃ G,StG ct lo hi w v f ct' G
theorem AKeep.same {C:Cx} {lo hi:Nat} {w w1 w2:World} (h:SameOn lo hi w w1) (k:AKeep C w1 w2) (hh:hi≤C.base):SameOn lo hi w w2 :=
 fun i h1 h2 hn=>by rw [k.below.block i (by omega)]; exact h i h1 h2 hn
def stepsA:List (Sp.Bl→Sp.Bl)→(Nat→Int × Int)→(Nat→(Fin 8→Sp.Cg)→List TelT × ST)→List StepA
 | [],_,_=>[]
 | _ :: fs,f,g=>((f 0).1,g 0) :: stepsA fs (fun i=>f (i + 1)) (fun i=>g (i + 1))
theorem stepsA_len:∀ (fs:List (Sp.Bl→Sp.Bl)) (f:Nat→Int × Int) (g:Nat→(Fin 8→Sp.Cg)→List TelT × ST),(stepsA fs f g).length=fs.length
 | [],_,_=>rfl
 | _ :: fs,f,g=>by show (stepsA fs _ _).length + 1=_; rw [stepsA_len fs]; rfl
theorem stepsA_get:∀ (fs:List (Sp.Bl→Sp.Bl)) (f:Nat→Int × Int) (g:Nat→(Fin 8→Sp.Cg)→List TelT × ST) (i:Nat) (x:StepA),(stepsA fs f g)[i]?=some x→x=((f i).1,g i)
 | [],_,_,i,x,h=>by simp [stepsA] at h
 | _ :: fs,f,g,0,x,h=>by simpa [stepsA] using h.symm
 | _ :: fs,f,g,i + 1,x,h=>by
  have h':(stepsA fs (fun i=>f (i + 1)) (fun i=>g (i + 1)))[i]?=some x:=by simpa [stepsA] using h
  exact stepsA_get fs _ _ i x h'
theorem then_blk (π:Par) (p:Int) (g:(Fin 8→Sp.Cg)→List TelT × ST) (s:ST) (A:ST→List TelT × ST) (xs:List StepA) (h:∀ s,A s=blkF xs s):Sp.thenR (Dm π) (Sp.stP (Dm π) p g s) A=blkF ((p,g) :: xs) s:=by
 cases s with
 | none=>exact (congrArg (fun r:List TelT × ST=>(([]:List TelT) ++ r.1,r.2)) ((h none).trans (blkF_none xs)))
 | some e=>exact (congrArg (fun r:List TelT × ST=>((Sp.Tel.point p e :: (g e).1) ++ r.1,r.2)) (h (g e).2))
theorem joins_all (π:Par) (P:Sp.Pol) (T:Tab) (lo hi:Nat) (w:World):∀ (fs:List (Sp.Bl→Sp.Bl)) (vs:Nat→Value) (f:Nat→Int × Int) (Gi:Nat→GF),(∀ i g,fs[i]?=some g→StG (f i) lo hi w (vs i) g (f (i + 1)) (Gi i)) →
  Sp.cB (Sp.joinB fs) (f 0)=f fs.length∧Sp.OkB (Sp.joinB fs)∧(∀ s,Sp.anB (Dm π) P (Sp.joinB fs) (f 0) s=blkF (stepsA fs f (fun i=>Gi i π P)) s)∧(Sp.LoopsB (Dm π) P T (Sp.joinB fs) (f 0)→∀ i g,fs[i]?=some g→Sp.LoopsB (Dm π) P T (g .nil) (f i))
 | [],vs,f,Gi,_=>⟨rfl,(fun n hn=>by cases hn),(fun s=>rfl),fun _ i g h=>by simp at h⟩
 | x :: fs,vs,f,Gi,h=>by
  have hx:=h 0 x (by simp)
  obtain ⟨h1,h2,h3,h4⟩:=joins_all π P T lo hi w fs (fun i=>vs (i + 1)) (fun i=>f (i + 1)) (fun i=>Gi (i + 1)) (fun i g hg=>h (i + 1) g (by simpa using hg))
  refine ⟨?_,hx.ok _ h2,fun s=>?_,fun hl i g hg=>?_⟩
  ·show Sp.cB (x (Sp.joinB fs)) (f 0)=_
   rw [hx.cb]
   exact h1
  ·exact (hx.eq π P (Sp.joinB fs) s).trans (then_blk π _ _ s _ _ h3)
  ·obtain ⟨l1,l2⟩:=hx.lp π P T _ hl
   cases i with
   | zero =>
    have:x=g:=by simpa using hg
    subst this
    exact l1
   | succ i=>exact h4 l2 i g (by simpa using hg)
structure BlA (ct:Int × Int) (lo hi:Nat) (w:World) (v:Value) (t:Sp.Bl) (ct':Int × Int):Prop where
 cb:Sp.cB t ct=ct'
 ok:Sp.OkB t
 calls:∀ (C:Cx) (π:Par) (T:Tab) (b:Bool) (W:World),SameOn lo hi w W→hi≤C.base→C.narrow≤1000→C.unroll≤1000→Sp.LoopsB (Dm π) C.pol T t ct→BlkAll C π T b W v (Sp.anB (Dm π) C.pol t ct)
theorem blk_an {ct ct':Int × Int} {lo hi:Nat} {w:World} {v:Value} {fs:List (Sp.Bl→Sp.Bl)} (h:Blk StA ct lo hi w v fs ct'):BlA ct lo hi w v (Sp.joinB fs) ct':=by
 obtain ⟨vs,f,ho,hg,he,rfl,rfl⟩:=h
 have hvl:vs.length=fs.length:=by have:=ho.1; rw [Nat.mul_one] at this; exact this
 have hget:∀ i g,fs[i]?=some g→∃ u,vs[i]?=some u∧StA (f i) lo hi w u g (f (i + 1)):=fun i g hx=>by
  have hi:i<vs.length:=by rw [hvl]; exact (List.getElem?_eq_some_iff.1 hx).1
  exact ⟨_,List.getElem?_eq_getElem hi,he i _ g (List.getElem?_eq_getElem hi) hx⟩
 have hall:∀ i,∃ G:GF,∀ g,fs[i]?=some g→StG (f i) lo hi w (vs.getD i .nilIface) g (f (i + 1)) G:=fun i=>by
  cases hf:fs[i]? with
  | none=>exact ⟨fun _ _ _=>([],none),fun g hg=>by cases hg⟩
  | some g =>
   obtain ⟨u,hu,_,G,hG⟩:=hget i g hf
   refine ⟨G,fun g' hg'=>?_⟩
   cases hg'
   rw [List.getD_eq_getElem?_getD,hu]
   exact hG
 obtain ⟨Gi,hGi⟩:=Classical.axiomOfChoice hall
 have J:=fun π P T=>joins_all π P T lo hi w fs (fun i=>vs.getD i .nilIface) f Gi hGi
 refine ⟨(J default ⟨0,0,0⟩ (fun _ s=>([],s))).1,(J default ⟨0,0,0⟩ (fun _ s=>([],s))).2.1,?_⟩
 intro C π T b W hso hhB hnar hunr hlp F W' s hk ha hs hr
 obtain ⟨_,_,j3,j4⟩:=J π C.pol T
 have hso':=hk.same hso hhB
 rw [j3] at hr ⊢
 rcases ho.2 with ⟨rfl,hz⟩ | ⟨g,cap,cur,rfl,hlg,hh,hnc,hcm,hcs,htake⟩
 ·obtain rfl:fs=[]:=List.eq_nil_of_length_eq_zero hz
  exact block_nil C π T F b W' s ha
 ·have hgl:=hg g rfl
  have hsl:=stepsA_len fs f (fun i=>Gi i π C.pol)
  have:=block_calls C π T F b W' g cap (stepsA fs f (fun i=>Gi i π C.pol)) vs (by rw [hsl]; exact hvl) (by omega) (by rw [hsl]; unfold maxLen at hcm; omega) s hs ha hr
   (fun i u hu=>by
     have h1:W'.heap[g]?=some (.cells cur 234):=by rw [hso' g hlg hgl (by rw [hh]; exact not_num (by decide))]; exact hh
     refine cell_of h1 i ?_
     have h2:i<vs.length:=(List.getElem?_eq_some_iff.1 hu).1
     have h3:cur.toList[i]?=vs[i]?:=by
      rw [← htake,List.getElem?_take,if_pos (by omega)]
     rw [← Array.getElem?_toList,h3]; exact hu)
   (fun i u p G hu hx=>by
     have hp:=stepsA_get fs f _ i _ hx
     injection hp with hp1 hp2
     have hi:i<fs.length:=by rw [← hvl]; exact (List.getElem?_eq_some_iff.1 hu).1
     obtain ⟨u',hu',⟨t,y,e1,e2⟩,_⟩:=hget i _ (List.getElem?_eq_getElem hi)
     rw [hu] at hu'
     cases hu'
     have hst:=hGi i _ (List.getElem?_eq_getElem hi)
     rw [List.getD_eq_getElem?_getD,hu] at hst
     refine ⟨t,y,e1,by rw [hp1]; exact e2,fun e he=>by rw [hp2]; exact hst.wf π C.pol e he,fun F' W2 e hk2 ha2 hwe hr2=>?_⟩
     subst hp2
     exact hst.calls C π T F' b W2 e (hk2.same hso' hhB) hhB hnar hunr (j4 hlp i _ (List.getElem?_eq_getElem hi)) ha2 hwe hr2)
  rw [hsl] at this
  exact this
end WC
end Go.Proofs.YtiopfihjmkfdmaaGreatDoor
namespace Go.Proofs.YtiopfihjmkfdmaaGreatDoor
namespace WC
open Go.RowKit
set_option maxRecDepth 100000
set_option maxHeartbeats 8000000
structure ArIn (C:Cx) (π:Par) (T:Tab) (F:Fd) (w:World) (wa ic xa oa:Array Value) (W:World):Prop where
 a:AnAt C π T F W
 k:AKeep C w W
 o:W.heap[w.heap.size]?=some (.cells wa 200)
 c:W.heap[w.heap.size + 1]?=some (.cells ic 293)
 s:W.heap[w.heap.size + 1 + 1]?=some (.cells xa 203)
 z:W.heap[w.heap.size + 1 + 1 + 1]?=some (.cells #[.bool false,.int .i64 0,.int .i64 0,.int .i64 0,.int .i64 0,.int .i64 0,.int .i64 0,.int .i64 0,.int .i64 0,.int .i64 0,.int .i64 0,.int .i64 0,.int .i64 0,.int .i64 0,.int .i64 0,.int .i64 0,.int .i64 0] 203)
 u:W.heap[w.heap.size + 1 + 1 + 1 + 1]?=some (.cells oa 203)
theorem ArIn.call {C:Cx} {π:Par} {T:Tab} {F:Fd} {w:World} {wa ic xa oa:Array Value} {W W':World} (h:ArIn C π T F w wa ic xa oa W) (k:Below W.heap.size W W'):ArIn C π T F w wa ic xa oa W' :=
 ⟨h.a.call k,h.k.trans (AKeep.of_below k h.a.le),(k.block _ (heap_lt h.o)).trans h.o,(k.block _ (heap_lt h.c)).trans h.c,(k.block _ (heap_lt h.s)).trans h.s,(k.block _ (heap_lt h.z)).trans h.z,(k.block _ (heap_lt h.u)).trans h.u⟩
theorem ArIn.keep {C:Cx} {π:Par} {T:Tab} {F F' F0:Fd} {w:World} {wa ic xa oa:Array Value} {W W':World} (h:ArIn C π T F w wa ic xa oa W) (h0:AnAt C π T F0 w) (ha:AnAt C π T F' W') (k:AKeep C W W'):ArIn C π T F' w wa ic xa oa W' :=
 ⟨ha,h.k.trans k,k.mine h0 (Nat.le_refl _) h.o,k.mine h0 (by omega) h.c,k.mine h0 (by omega) h.s,k.mine h0 (by omega) h.z,k.mine h0 (by omega) h.u⟩
theorem ArIn.putS {C:Cx} {π:Par} {T:Tab} {F F0:Fd} {w:World} {wa ic xa oa:Array Value} {W:World} (h:ArIn C π T F w wa ic xa oa W) (h0:AnAt C π T F0 w) (d:Array Value) (h1:xa.size=17) (h2:d.size=17):ArIn C π T F w wa ic d oa (W.setCells (w.heap.size + 1 + 1) 0 d.toList):=by
 have hb:Below w.heap.size W (W.setCells (w.heap.size + 1 + 1) 0 d.toList):=setCells_below (b:=w.heap.size + 1 + 1) (by omega) d.toList 0 W _ (Below.refl _ _)
 exact ⟨h0.upon h.a hb,AKeep.upon h0 h.k hb,(setCells_other _ _ _ _ (by omega)).trans h.o,(setCells_other _ _ _ _ (by omega)).trans h.c,setCells_whole h.s (by rw [h1,h2]),(setCells_other _ _ _ _ (by omega)).trans h.z,(setCells_other _ _ _ _ (by omega)).trans h.u⟩
theorem ArIn.putU {C:Cx} {π:Par} {T:Tab} {F F0:Fd} {w:World} {wa ic xa oa:Array Value} {W:World} (h:ArIn C π T F w wa ic xa oa W) (h0:AnAt C π T F0 w) (d:Array Value) (h1:oa.size=17) (h2:d.size=17):ArIn C π T F w wa ic xa d (W.setCells (w.heap.size + 1 + 1 + 1 + 1) 0 d.toList):=by
 have hb:Below w.heap.size W (W.setCells (w.heap.size + 1 + 1 + 1 + 1) 0 d.toList):=setCells_below (b:=w.heap.size + 1 + 1 + 1 + 1) (by omega) d.toList 0 W _ (Below.refl _ _)
 exact ⟨h0.upon h.a hb,AKeep.upon h0 h.k hb,(setCells_other _ _ _ _ (by omega)).trans h.o,(setCells_other _ _ _ _ (by omega)).trans h.c,(setCells_other _ _ _ _ (by omega)).trans h.s,(setCells_other _ _ _ _ (by omega)).trans h.z,setCells_whole h.u (by rw [h1,h2])⟩
abbrev tlP (π:Par) (p:Int) (s:ST):List TelT:=Sp.telP (Dm π) p s
theorem laid5b {w:World} (o1 o2 o3 o4 o5:Obj) :
  (((((w.alloc o1).alloc o2).alloc o3).alloc o4).alloc o5).heap[w.heap.size]?=some o1∧(((((w.alloc o1).alloc o2).alloc o3).alloc o4).alloc o5).heap[w.heap.size + 1]?=some o2∧(((((w.alloc o1).alloc o2).alloc o3).alloc o4).alloc o5).heap[w.heap.size + 1 + 1]?=some o3∧(((((w.alloc o1).alloc o2).alloc o3).alloc o4).alloc o5).heap[w.heap.size + 1 + 1 + 1]?=some o4∧(((((w.alloc o1).alloc o2).alloc o3).alloc o4).alloc o5).heap[w.heap.size + 1 + 1 + 1 + 1]?=some o5∧Below w.heap.size w (((((w.alloc o1).alloc o2).alloc o3).alloc o4).alloc o5):=laid5 w o1 o2 o3 o4 o5
theorem around_calls (p:Int) (k:Nat) (tl:TypeId) (ul:Value) (tr:TypeId) (ur:Value) (av:Option Addr) (nv cv:Nat) (CN:ST→List TelT × ST × ST) (body:ST→List TelT × ST) (AL:ST→ST) (C:Cx) (π:Par) (T:Tab) (F:Fd) (b:Bool) (w:World) (s:ST) (U:List TelT × ST × ST) (h:AnAt C π T F w) (hs:Sp.Wf (Kr π) s)
  (hU:Sp.unrF (Dm π) CN body p C.unroll none s=U)
  (hcon:∀ F' W s',AnAt C π T F' W→Sp.Wf (Kr π) s'→Rng b F' (CN s').1→Calls Tryz.prog 194 #[.agg (wk C b),.agg #[.int .i64 (k:Nat),.iface tl ul,.iface tr ur],.agg (stC s')] W (CondPost C π T F' b W (CN s').1 (CN s').2.1 (CN s').2.2))
  (hcw:Sp.CondWf (Kr π) CN) (hbw:Sp.BodyWf (Kr π) body) (hblk:BlkAll C π T b w (.slice av nv cv) body)
  (hall:∀ F' W s',AKeep C w W→AnAt C π T F' W→Sp.Wf (Kr π) s'→Calls Tryz.prog 223 #[.agg (wk C b),.agg (whA p k tl ul tr ur av nv cv),.agg (stC s')] W fun e w'=>e=.returned (.agg (stC (AL s')))∧AnAt C π T F' w'∧AKeep C W w')
  (haw:∀ s',Sp.Wf (Kr π) s'→Sp.Wf (Kr π) (AL s')) (hunr:C.unroll≤1000) (hp:b=true→0≤p∧p.toNat<F.1.length)
  (hr:Rng b F (U.1 ++ tlP π p (AL U.2.2) ++ (CN (AL U.2.2)).1 ++ (body (CN (AL U.2.2)).2.1).1)) :
  Calls Tryz.prog 196 #[.agg (wk C b),.agg (whA p k tl ul tr ur av nv cv),.agg (stC s)] w (Post C π T F b w (U.1 ++ tlP π p (AL U.2.2) ++ (CN (AL U.2.2)).1 ++ (body (CN (AL U.2.2)).2.1).1) (Sp.jn (Dm π) U.2.1 (CN (AL U.2.2)).2.2)):=by
 have hws:=wk_size C b
 have hw7:=wk_seven C b
 have hw4:(wk C b)[4]?=some (.int .i64 (C.unroll:Nat)):=rfl
 obtain ⟨wa,hwa⟩:∃ wa,wa=wk C b:=⟨_,rfl⟩
 obtain ⟨ic,hic⟩:∃ ic,ic=whA p k tl ul tr ur av nv cv:=⟨_,rfl⟩
 have U0:Hid (Sp.UnTo (Kr π) CN body p U C.unroll [] none s):=by rw [← hU]; exact Sp.UnTo.start CN body p C.unroll hs
 have UON:Hid (∀ (m:Nat) (ej:List TelT) (oj sj:ST),Sp.UnTo (Kr π) CN body p U (m + 1) ej oj sj→Sp.UnTo (Kr π) CN body p U m (ej ++ tlP π p sj ++ (CN sj).1 ++ (body (CN sj).2.1).1) (Sp.jn (Dm π) oj (CN sj).2.2) (body (CN sj).2.1).2):=fun m ej oj sj h=>Sp.UnTo.on hcw hbw h
 have HCOME:Hid (∀ (W:World) (e':List TelT) (sj:ST) xa oa,ArIn C π T (told π b F e') w wa ic xa oa W→xa=stC sj→Sp.Wf (Kr π) sj→Calls Tryz.prog 80 #[.agg wa,.int .i64 p,.agg xa] W fun r w'=>r=.returned (.tuple #[])∧ArIn C π T (told π b F (e' ++ tlP π p sj)) w wa ic xa oa w'):=fun W e' sj xa oa hW e1 hw=>by
  have:=pointS_calls C π T (told π b F e') b W hW.a p sj hw (fun hb=>by rw [(told_len π b F e').1]; exact hp hb)
  rw [← e1,← hwa] at this
  exact this.mono fun r w' q=>⟨q.1,hW.keep h (by rw [told_append]; exact q.2.1) q.2.2⟩
 have HCOND:Hid (∀ (W:World) (e':List TelT) (sj:ST) xa oa q1 q2,ArIn C π T (told π b F e') w wa ic xa oa W→xa=stC sj→Sp.Wf (Kr π) sj→Rng b F (e' ++ (CN sj).1)→q1=stC (CN sj).2.1→q2=stC (CN sj).2.2→Calls Tryz.prog 194 #[.agg wa,.agg #[.int .i64 (k:Nat),.iface tl ul,.iface tr ur],.agg xa] W fun r w'=>r=.returned (.tuple #[.agg q1,.agg q2])∧ArIn C π T (told π b F (e' ++ (CN sj).1)) w wa ic xa oa w'):=fun W e' sj xa oa q1 q2 hW e1 hw hr e2 e3=>by
  have:=hcon (told π b F e') W sj hW.a hw hr.right
  unfold CondPost at this
  rw [← e1,← e2,← e3,← hwa] at this
  exact this.mono fun r w' q=>⟨q.1,hW.keep h (by rw [told_append]; exact q.2.1) q.2.2⟩
 have HJOIN:Hid (∀ W F' u v ua va ja xa oa,ArIn C π T F' w wa ic xa oa W→ua=stC u→va=stC v→Sp.Wf (Kr π) u→Sp.Wf (Kr π) v→ja=stC (Sp.jn (Dm π) u v)→Calls Tryz.prog 113 #[.agg wa,.agg ua,.agg va] W fun r w'=>r=.returned (.agg ja)∧Below W.heap.size W w'):=fun W F' u v ua va ja xa oa hW e1 e2 w1 w2 e3=>by
  have:=jn_calls C.dv C.dom C.delay C.narrow C.unroll C.th C.m (if b then some ⟨C.fb,0,none⟩ else none) u v _ W hW.a.does rfl w1 w2
  have h2:Calls Tryz.prog 113 #[.agg (wk C b),.agg (stC u),.agg (stC v)] W _:=this
  rw [← e1,← e2,← e3,← hwa] at h2
  exact h2
 have HBLK:Hid (∀ (W:World) (e':List TelT) (s1:ST) xa oa qa va,ArIn C π T (told π b F e') w wa ic xa oa W→qa=stC s1→Sp.Wf (Kr π) s1→Rng b F (e' ++ (body s1).1)→va=stC (body s1).2→Calls Tryz.prog 78 #[.agg wa,.slice av nv cv,.agg qa] W fun r w'=>r=.returned (.agg va)∧ArIn C π T (told π b F (e' ++ (body s1).1)) w wa ic xa oa w'∧AKeep C W w'):=fun W e' s1 xa oa qa va hW e1 hw hr e2=>by
  have:=hblk (told π b F e') W s1 hW.k hW.a hw hr.right
  unfold Post at this
  rw [← e1,← e2,← hwa] at this
  exact this.mono fun r w' q=>⟨q.1,hW.keep h (by rw [told_append]; exact q.2.1) q.2.2,q.2.2⟩
 have HALL:Hid (∀ (W:World) (e':List TelT) (sj:ST) xa oa va,ArIn C π T (told π b F e') w wa ic xa oa W→xa=stC sj→Sp.Wf (Kr π) sj→va=stC (AL sj)→Calls Tryz.prog 223 #[.agg wa,.agg (whA p k tl ul tr ur av nv cv),.agg xa] W fun r w'=>r=.returned (.agg va)∧ArIn C π T (told π b F e') w wa ic xa oa w'):=fun W e' sj xa oa va hW e1 hw e2=>by
  have:=hall (told π b F e') W sj hW.k hW.a hw
  rw [← e1,← e2,← hwa] at this
  exact this.mono fun r w' q=>⟨q.1,hW.keep h q.2.1 q.2.2⟩
 obtain ⟨xa,hxa⟩:∃ xa,xa=stC s:=⟨_,rfl⟩
 obtain ⟨ES,hES⟩:∃ ES,ES=U.1 ++ tlP π p (AL U.2.2) ++ (CN (AL U.2.2)).1 ++ (body (CN (AL U.2.2)).2.1).1:=⟨_,rfl⟩
 obtain ⟨RS,hRS⟩:∃ RS,RS=Sp.jn (Dm π) U.2.1 (CN (AL U.2.2)).2.2:=⟨_,rfl⟩
 have HES:Hid (ES=_):=hES
 have HRS:Hid (RS=_):=hRS
 rw [← hwa,← hxa,← hES,← hRS]
 rw [← hwa] at hws hw7 hw4
 obtain ⟨k0,k1,k2,k3,k4,kb⟩:=laid5b (w:=w) (.cells wa 200) (.cells ic 293) (.cells xa 203) (.cells #[.bool false,.int .i64 0,.int .i64 0,.int .i64 0,.int .i64 0,.int .i64 0,.int .i64 0,.int .i64 0,.int .i64 0,.int .i64 0,.int .i64 0,.int .i64 0,.int .i64 0,.int .i64 0,.int .i64 0,.int .i64 0,.int .i64 0] 203) (.cells #[.bool false,.int .i64 0,.int .i64 0,.int .i64 0,.int .i64 0,.int .i64 0,.int .i64 0,.int .i64 0,.int .i64 0,.int .i64 0,.int .i64 0,.int .i64 0,.int .i64 0,.int .i64 0,.int .i64 0,.int .i64 0,.int .i64 0] 203)
 rw [hic] at k0 k1 k2 k3 k4 kb
 have H0:Hid (ArIn C π T (told π b F []) w wa ic xa (stC none) (((((w.alloc (.cells wa 200)).alloc (.cells (whA p k tl ul tr ur av nv cv) 293)).alloc (.cells xa 203)).alloc (.cells #[.bool false,.int .i64 0,.int .i64 0,.int .i64 0,.int .i64 0,.int .i64 0,.int .i64 0,.int .i64 0,.int .i64 0,.int .i64 0,.int .i64 0,.int .i64 0,.int .i64 0,.int .i64 0,.int .i64 0,.int .i64 0,.int .i64 0] 203)).alloc (.cells #[.bool false,.int .i64 0,.int .i64 0,.int .i64 0,.int .i64 0,.int .i64 0,.int .i64 0,.int .i64 0,.int .i64 0,.int .i64 0,.int .i64 0,.int .i64 0,.int .i64 0,.int .i64 0,.int .i64 0,.int .i64 0,.int .i64 0] 203))):=by
  rw [told_nil,hic]
  exact ⟨h.call kb,AKeep.of_below kb h.le,k0,k1,k2,k3,k4⟩
 have HA:Hid (AnAt C π T F w):=h
 have HXA:Hid (xa=stC s):=hxa
 have HR:Hid (Rng b F _):=hr
 have HCW:Hid (Sp.CondWf (Kr π) CN):=hcw
 have HBW:Hid (Sp.BodyWf (Kr π) body):=hbw
 have HAW:Hid (∀ s',Sp.Wf (Kr π) s'→Sp.Wf (Kr π) (AL s')):=haw
 have HIC:Hid (ic=_):=hic
 have c4:=cell_of H0.out.o 4 hw4
 have hc0:ic[0]?=some (.int .i64 p):=by rw [hic]; rfl
 have hc1:ic[1]?=some (.int .i64 (k:Nat)):=by rw [hic]; rfl
 have hc2:ic[2]?=some (.iface tl ul):=by rw [hic]; rfl
 have hc3:ic[3]?=some (.iface tr ur):=by rw [hic]; rfl
 have hc4:ic[4]?=some (.slice av nv cv):=by rw [hic]; rfl
 clear hES hRS h hs hcon hcw hbw hblk hall haw hp hr hwa hic hxa k0 k1 k2 k3 k4 kb hU
 go_enter Tryz.func196,Tryz.ntmps196
 go_wp2_with fail
 generalize ((((w.alloc (.cells wa 200)).alloc (.cells (whA p k tl ul tr ur av nv cv) 293)).alloc (.cells xa 203)).alloc (.cells #[.bool false,.int .i64 0,.int .i64 0,.int .i64 0,.int .i64 0,.int .i64 0,.int .i64 0,.int .i64 0,.int .i64 0,.int .i64 0,.int .i64 0,.int .i64 0,.int .i64 0,.int .i64 0,.int .i64 0,.int .i64 0,.int .i64 0] 203)).alloc (.cells #[.bool false,.int .i64 0,.int .i64 0,.int .i64 0,.int .i64 0,.int .i64 0,.int .i64 0,.int .i64 0,.int .i64 0,.int .i64 0,.int .i64 0,.int .i64 0,.int .i64 0,.int .i64 0,.int .i64 0,.int .i64 0,.int .i64 0] 203)=W0 at *
 clear c4
 go_loopw [15] (fun v15 wr=>∃ (j m:Nat) (ej:List TelT) (oj sj:ST) (xj ua:Array Value),m + j=C.unroll∧v15=.int .i64 j∧Hid (ArIn C π T (told π b F ej) w wa ic xj ua wr)∧Hid (Sp.UnTo (Kr π) CN body p U m ej oj sj)∧Hid (xj=stC sj)∧Hid (ua=stC oj)) (fun v15 _=>C.unroll - (intOf v15).toNat)
 case atStart=>exact ⟨0,C.unroll,[],none,s,xa,stC none,rfl,rfl,H0,U0,HXA,rfl⟩
 case round =>
  obtain ⟨j,m,ej,oj,sj,xj,ua,hmj,rfl,hq,hto,hx,hu⟩:=hrel
  clear H0 U0 HXA
  have x17:xj.size=17:=by rw [hx.out]; exact stC_size sj
  have u17:ua.size=17:=by rw [hu.out]; exact stC_size oj
  have ws:=hto.out.ws
  have wo:=hto.out.wo
  cases m with
  | zero =>
   obtain rfl:j=C.unroll:=by omega
   have hE:=hto.out.end
   obtain ⟨va,hva⟩:∃ q,q=stC (AL sj):=⟨_,rfl⟩
   obtain ⟨q1,hq1⟩:∃ q,q=stC (CN (AL sj)).2.1:=⟨_,rfl⟩
   obtain ⟨q2,hq2⟩:∃ q,q=stC (CN (AL sj)).2.2:=⟨_,rfl⟩
   obtain ⟨ra,hra⟩:∃ q,q=stC RS:=⟨_,rfl⟩
   obtain ⟨ba,hba⟩:∃ q,q=stC (body (CN (AL sj)).2.1).2:=⟨_,rfl⟩
   have v17:va.size=17:=by rw [hva]; exact stC_size _
   have v1o:va.all (·.oneCell')=true:=by rw [hva]; exact stC_one _
   have a17:q1.size=17:=by rw [hq1]; exact stC_size _
   have a1o:q1.all (·.oneCell')=true:=by rw [hq1]; exact stC_one _
   have b17:q2.size=17:=by rw [hq2]; exact stC_size _
   have b1o:q2.all (·.oneCell')=true:=by rw [hq2]; exact stC_one _
   have r17:ra.size=17:=by rw [hra]; exact stC_size _
   have r1o:ra.all (·.oneCell')=true:=by rw [hra]; exact stC_one _
   have HVA:Hid (va=_):=hva
   have HQ1:Hid (q1=_):=hq1
   have HQ2:Hid (q2=_):=hq2
   have HRA:Hid (ra=_):=hra
   have HBA:Hid (ba=_):=hba
   have wv:=HAW.out sj ws
   have wc:=HCW.out (AL sj) wv
   have hrr:=HR.out
   have hES:=HES.out
   have hRS:=HRS.out
   rw [hE] at hrr hES hRS
   have HRB:Hid (Rng b F (ej ++ tlP π p (AL sj) ++ (CN (AL sj)).1 ++ (body (CN (AL sj)).2.1).1)):=hrr
   have HRC:Hid (Rng b F (ej ++ tlP π p (AL sj) ++ (CN (AL sj)).1)):=hrr.left
   have HES2:Hid (ES=ej ++ tlP π p (AL sj) ++ (CN (AL sj)).1 ++ (body (CN (AL sj)).2.1).1):=hES
   have HRJ:Hid (ra=stC (Sp.jn (Dm π) oj (CN (AL sj)).2.2)):=by rw [hra,hRS]; rfl
   have HO:Hid (_=_):=hq.out.o
   have HS:Hid (_=_):=hq.out.s
   have d0:=cell_of hq.out.c 0 hc0
   have d1:=cell_of hq.out.c 1 hc1
   have d2:=cell_of hq.out.c 2 hc2
   have d3:=cell_of hq.out.c 3 hc3
   have d4:=cell_of hq.out.c 4 hc4
   clear hva hq1 hq2 hra hba hrr hES hRS hE HR HES HRS UON
   go_wp2_with (first
    | (refine wp_ldW rfl _ rfl rfl (c:=wa) HO.out hws ?_)
    | (refine wp_ld rfl _ rfl rfl (c:=xj) HS.out x17 ?_))
   refine (HALL.out wr ej sj xj ua va hq.out hx.out ws HVA.out).mono ?_
   rintro r w1 ⟨rfl,h1⟩
   have HS1:Hid (_=_):=h1.s
   have HI2:Hid (ArIn C π T _ w wa ic va ua _):=h1.putS HA.out va x17 v17
   clear h1 d0 d1 d2 d3 d4 HO HS
   go_wp2_with (first
    | (refine wp_st rfl _ _ rfl rfl (c:=xj) (d:=va) rfl (by exact HS1.out) x17 v17 v1o ?_))
   generalize w1.setCells (w.heap.size + 1 + 1) 0 va.toList=w2 at *
   have H2:Hid (ArIn C π T (told π b F ej) w wa ic va ua w2.drew):=HI2.out.call (Below.refl _ _).drew
   refine wp_region_held_drew (S:=fun w':World=>∃ e',ArIn C π T (told π b F e') w wa ic va ua w') (by kernel_rfl) ⟨_,H2.out⟩ (fun hHeld=>?_)
   refine tky 0 rfl (yieldsIf_load_mid (by rfl) _ _ rfl _ _ rfl (wa).toList _ (fun w' h=>(h.elim fun _ h=>range_of h.o)) Tryz.underlying200 rfl (by rw [infoWk,Array.length_toList,hws])) hHeld ?_
   simp only [Act.put]
   refine tky 4 rfl (yieldsIf_load_mid (by rfl) _ _ rfl _ _ rfl (va).toList _ (fun w' h=>(h.elim fun _ h=>range_of h.s)) Tryz.underlying203 rfl (by rw [infoSt,Array.length_toList,v17])) hHeld ?_
   simp only [Act.put]
   refine tk 1 (.pointer (some ⟨w.heap.size + 1,0,none⟩)) rfl (fun w' h=>by go_simp) hHeld ?_
   simp only [Act.put]
   refine tk 2 (.int .i64 p) rfl (fun w' h=>by obtain ⟨_,h⟩:=h; have d0:=cell_of h.c 0 hc0; go_simp) hHeld ?_
   simp only [Act.put]
   refine rd1 3 fun K hK=>?_
   simp only [gsb,gsa,Array.toArray_toList]
   go_simp
   refine (anwhere_calls p _).mono ?_
   rintro r w0 ⟨rfl,rfl⟩
   go_wp2_with fail
   refine hK.out _ _ hHeld (fun hHeld=>?_)
   clear hK K
   refine rd1 5 fun K hK=>?_
   simp only [gsb]
   go_simp
   refine (HCOME.out _ ej (AL sj) va ua H2.out HVA.out wv).mono ?_
   rintro r w3 ⟨rfl,h3⟩
   go_wp2_with fail
   refine hK.out _ _ ⟨_,h3⟩ (fun _=>?_)
   clear hK K hHeld
   refine wpAnyH_done (by kernel_rfl) ?_ _
   have HI3:Hid (ArIn C π T _ w wa ic va ua w3):=h3
   have HO3:Hid (_=_):=h3.o
   have HS3:Hid (_=_):=h3.s
   have c1:=cell_of h3.c 1 hc1
   have c2:=cell_of h3.c 2 hc2
   have c3:=cell_of h3.c 3 hc3
   clear h3 H2 HI2 HS1
   go_wp2_with (first
    | (refine wp_ldW rfl _ rfl rfl (c:=wa) HO3.out hws ?_)
    | (refine wp_ld rfl _ rfl rfl (c:=va) HS3.out v17 ?_))
   refine (HCOND.out _ _ (AL sj) va ua q1 q2 HI3.out HVA.out wv HRC.out HQ1.out HQ2.out).mono ?_
   rintro r w4 ⟨rfl,h4⟩
   obtain ⟨t1,t2,t3,t4,tb⟩:=two_new w4 q1 q2 a17 b17
   have HT1:Hid (_=_):=t1
   have HT2:Hid (_=_):=t2
   have hp8:w.heap.size + 1 + 1 + 1 + 1<w4.heap.size:=heap_lt h4.u
   have HI5:Hid (ArIn C π T _ w wa ic va ua _):=h4.call tb
   have T3:Hid (_=_):=t3
   have T4:Hid (_=_):=t4
   have HO5:Hid (_=_):=HI5.out.o
   have HU5:Hid (_=_):=HI5.out.u
   have c4:=cell_of HI5.out.c 4 hc4
   have c7:=cell_of HI5.out.o 7 hw7
   clear t1 t2 t3 t4 tb h4 c1 c2 c3 HO3 HS3 HI3
   cases b with
   | true =>
    simp only [if_true] at c7
    go_wp2_with (first
     | (refine wp_st rfl _ _ rfl rfl (c:=#[.bool false,.int .i64 0,.int .i64 0,.int .i64 0,.int .i64 0,.int .i64 0,.int .i64 0,.int .i64 0,.int .i64 0,.int .i64 0,.int .i64 0,.int .i64 0,.int .i64 0,.int .i64 0,.int .i64 0,.int .i64 0,.int .i64 0]) (d:=q1) rfl (by exact HT1.out) rfl a17 a1o ?_)
     | (refine wp_st rfl _ _ rfl rfl (c:=#[.bool false,.int .i64 0,.int .i64 0,.int .i64 0,.int .i64 0,.int .i64 0,.int .i64 0,.int .i64 0,.int .i64 0,.int .i64 0,.int .i64 0,.int .i64 0,.int .i64 0,.int .i64 0,.int .i64 0,.int .i64 0,.int .i64 0]) (d:=q2) rfl (by exact HT2.out) rfl b17 b1o ?_)
     | (refine wp_ldW rfl _ rfl rfl (c:=wa) (by exact HO5.out) hws ?_)
     | (refine wp_ld rfl _ rfl rfl (c:=q1) (by exact T3.out) a17 ?_))
    generalize ((((w4.alloc (.cells #[.bool false,.int .i64 0,.int .i64 0,.int .i64 0,.int .i64 0,.int .i64 0,.int .i64 0,.int .i64 0,.int .i64 0,.int .i64 0,.int .i64 0,.int .i64 0,.int .i64 0,.int .i64 0,.int .i64 0,.int .i64 0,.int .i64 0] 203)).alloc (.cells #[.bool false,.int .i64 0,.int .i64 0,.int .i64 0,.int .i64 0,.int .i64 0,.int .i64 0,.int .i64 0,.int .i64 0,.int .i64 0,.int .i64 0,.int .i64 0,.int .i64 0,.int .i64 0,.int .i64 0,.int .i64 0,.int .i64 0] 203)).setCells w4.heap.size 0 q1.toList).setCells (w4.heap.size + 1) 0 q2.toList)=w5 at *
    refine (HBLK.out w5 _ (CN (AL sj)).2.1 va ua q1 ba HI5.out HQ1.out wc.1 HRB.out HBA.out).mono ?_
    rintro r w6 ⟨rfl,h6,b6⟩
    have t6:=b6.mine HA.out (by omega) T4.out
    have T6:Hid (_=_):=t6
    have HI6:Hid (ArIn C π T _ w wa ic va ua w6):=h6
    have HO6:Hid (_=_):=h6.o
    have HU6:Hid (_=_):=h6.u
    clear h6 b6 t6 c4 c7 T3 T4 HO5 HU5 HI5 HT1 HT2
    go_wp2_with (first
     | (refine wp_ldW rfl _ rfl rfl (c:=wa) (by exact HO6.out) hws ?_)
     | (refine wp_ld rfl _ rfl rfl (c:=ua) (by exact HU6.out) u17 ?_)
     | (refine wp_ld rfl _ rfl rfl (c:=q2) (by exact T6.out) b17 ?_))
    refine (HJOIN.out w6 _ oj (CN (AL sj)).2.2 ua q2 ra va ua HI6.out hu.out HQ2.out wo wc.2 HRJ.out).mono ?_
    rintro r w7 ⟨rfl,b7⟩
    have h7:=HI6.out.call b7
    have HZ7:Hid (_=_):=h7.z
    have HI7:Hid (ArIn C π T _ w wa ic va ua w7):=h7
    have hr0:Hid (_=_):=setCells_whole h7.z (d:=ra) (by rw [r17]; rfl)
    have HBf:Hid (Below w.heap.size w7 _):=setCells_below (b:=w.heap.size + 1 + 1 + 1) (by omega) ra.toList 0 w7 _ (Below.refl _ _)
    clear h7 b7
    go_wp2_with (first
     | (refine wp_st rfl _ _ rfl rfl rfl HZ7.out rfl r17 r1o ?_))
    refine bodyPost_ret (results_st Tryz.results196 _ _ rfl hr0.out r17) rfl ⟨by rw [HRA.out],?_,AKeep.upon HA.out HI7.out.k HBf.out⟩
    rw [HES2.out]
    exact HA.out.upon HI7.out.a HBf.out
   | false =>
    simp only [Bool.false_eq_true,if_false] at c7
    go_wp2_with (first
     | (refine wp_st rfl _ _ rfl rfl (c:=#[.bool false,.int .i64 0,.int .i64 0,.int .i64 0,.int .i64 0,.int .i64 0,.int .i64 0,.int .i64 0,.int .i64 0,.int .i64 0,.int .i64 0,.int .i64 0,.int .i64 0,.int .i64 0,.int .i64 0,.int .i64 0,.int .i64 0]) (d:=q1) rfl (by exact HT1.out) rfl a17 a1o ?_)
     | (refine wp_st rfl _ _ rfl rfl (c:=#[.bool false,.int .i64 0,.int .i64 0,.int .i64 0,.int .i64 0,.int .i64 0,.int .i64 0,.int .i64 0,.int .i64 0,.int .i64 0,.int .i64 0,.int .i64 0,.int .i64 0,.int .i64 0,.int .i64 0,.int .i64 0,.int .i64 0]) (d:=q2) rfl (by exact HT2.out) rfl b17 b1o ?_)
     | (refine wp_ldW rfl _ rfl rfl (c:=wa) (by exact HO5.out) hws ?_)
     | (refine wp_ld rfl _ rfl rfl (c:=ua) (by exact HU5.out) u17 ?_)
     | (refine wp_ld rfl _ rfl rfl (c:=q2) (by exact T4.out) b17 ?_))
    generalize ((((w4.alloc (.cells #[.bool false,.int .i64 0,.int .i64 0,.int .i64 0,.int .i64 0,.int .i64 0,.int .i64 0,.int .i64 0,.int .i64 0,.int .i64 0,.int .i64 0,.int .i64 0,.int .i64 0,.int .i64 0,.int .i64 0,.int .i64 0,.int .i64 0] 203)).alloc (.cells #[.bool false,.int .i64 0,.int .i64 0,.int .i64 0,.int .i64 0,.int .i64 0,.int .i64 0,.int .i64 0,.int .i64 0,.int .i64 0,.int .i64 0,.int .i64 0,.int .i64 0,.int .i64 0,.int .i64 0,.int .i64 0,.int .i64 0] 203)).setCells w4.heap.size 0 q1.toList).setCells (w4.heap.size + 1) 0 q2.toList)=w6 at *
    refine (HJOIN.out w6 _ oj (CN (AL sj)).2.2 ua q2 ra va ua HI5.out hu.out HQ2.out wo wc.2 HRJ.out).mono ?_
    rintro r w7 ⟨rfl,b7⟩
    have h7:=HI5.out.call b7
    have HZ7:Hid (_=_):=h7.z
    have HI7:Hid (ArIn C π T _ w wa ic va ua w7):=h7
    have hr0:Hid (_=_):=setCells_whole h7.z (d:=ra) (by rw [r17]; rfl)
    have HBf:Hid (Below w.heap.size w7 _):=setCells_below (b:=w.heap.size + 1 + 1 + 1) (by omega) ra.toList 0 w7 _ (Below.refl _ _)
    clear h7 b7
    go_wp2_with (first
     | (refine wp_st rfl _ _ rfl rfl rfl HZ7.out rfl r17 r1o ?_))
    refine bodyPost_ret (results_st Tryz.results196 _ _ rfl hr0.out r17) rfl ⟨by rw [HRA.out],?_,AKeep.upon HA.out HI7.out.k HBf.out⟩
    exact HA.out.upon HI7.out.a HBf.out
  | succ m =>
   have hjl:((j:Nat):Int)<((C.unroll:Nat):Int):=by omega
   have wc:=HCW.out sj ws
   obtain ⟨q1,hq1⟩:∃ q,q=stC (CN sj).2.1:=⟨_,rfl⟩
   obtain ⟨q2,hq2⟩:∃ q,q=stC (CN sj).2.2:=⟨_,rfl⟩
   obtain ⟨oa,hoa⟩:∃ q,q=stC (Sp.jn (Dm π) oj (CN sj).2.2):=⟨_,rfl⟩
   obtain ⟨sa,hsa⟩:∃ q,q=stC (body (CN sj).2.1).2:=⟨_,rfl⟩
   have a17:q1.size=17:=by rw [hq1]; exact stC_size _
   have a1o:q1.all (·.oneCell')=true:=by rw [hq1]; exact stC_one _
   have b17:q2.size=17:=by rw [hq2]; exact stC_size _
   have b1o:q2.all (·.oneCell')=true:=by rw [hq2]; exact stC_one _
   have o17:oa.size=17:=by rw [hoa]; exact stC_size _
   have o1o:oa.all (·.oneCell')=true:=by rw [hoa]; exact stC_one _
   have s17:sa.size=17:=by rw [hsa]; exact stC_size _
   have s1o:sa.all (·.oneCell')=true:=by rw [hsa]; exact stC_one _
   have HQ1:Hid (q1=_):=hq1
   have HQ2:Hid (q2=_):=hq2
   have HOA:Hid (oa=_):=hoa
   have HSA:Hid (sa=_):=hsa
   clear hq1 hq2 hoa hsa
   obtain ⟨more,hmore⟩:=hto.out.parts
   have hrr:=HR.out
   rw [hmore] at hrr
   have hrb:Rng b F (ej ++ tlP π p sj ++ (CN sj).1 ++ (body (CN sj).2.1).1):=hrr.left.left.left.left
   have HRC:Hid (Rng b F (ej ++ tlP π p sj ++ (CN sj).1)):=hrb.left
   have HRB:Hid (Rng b F _):=hrb
   have HON:Hid (Sp.UnTo _ _ _ _ _ _ _ _ _):=UON.out m ej oj sj hto.out
   clear hrr hrb hmore
   go_wp2_with fail
   have HO:Hid (_=_):=hq.out.o
   have H1:Hid (ArIn C π T (told π b F ej) w wa ic xj ua wr.drew):=hq.out.call (Below.refl _ _).drew
   refine wp_region_held_drew (S:=fun w':World=>∃ e',ArIn C π T (told π b F e') w wa ic xj ua w') (by kernel_rfl) ⟨_,H1.out⟩ (fun hHeld=>?_)
   refine tky 0 rfl (yieldsIf_load_mid (by rfl) _ _ rfl _ _ rfl (wa).toList _ (fun w' h=>(h.elim fun _ h=>range_of h.o)) Tryz.underlying200 rfl (by rw [infoWk,Array.length_toList,hws])) hHeld ?_
   simp only [Act.put]
   refine tky 4 rfl (yieldsIf_load_mid (by rfl) _ _ rfl _ _ rfl (xj).toList _ (fun w' h=>(h.elim fun _ h=>range_of h.s)) Tryz.underlying203 rfl (by rw [infoSt,Array.length_toList,x17])) hHeld ?_
   simp only [Act.put]
   refine tk 1 (.pointer (some ⟨w.heap.size + 1,0,none⟩)) rfl (fun w' h=>by go_simp) hHeld ?_
   simp only [Act.put]
   refine tk 2 (.int .i64 p) rfl (fun w' h=>by obtain ⟨_,h⟩:=h; have d0:=cell_of h.c 0 hc0; go_simp) hHeld ?_
   simp only [Act.put]
   refine rd1 3 fun K hK=>?_
   simp only [gsb,gsa,Array.toArray_toList]
   go_simp
   refine (anwhere_calls p _).mono ?_
   rintro r w0 ⟨rfl,rfl⟩
   go_wp2_with fail
   refine hK.out _ _ hHeld (fun hHeld=>?_)
   clear hK K
   refine rd1 5 fun K hK=>?_
   simp only [gsb]
   go_simp
   refine (HCOME.out _ ej sj xj ua H1.out hx.out ws).mono ?_
   rintro r w1 ⟨rfl,h1⟩
   go_wp2_with fail
   refine hK.out _ _ ⟨_,h1⟩ (fun _=>?_)
   clear hK K hHeld
   refine wpAnyH_done (by kernel_rfl) ?_ _
   have HI1:Hid (ArIn C π T _ w wa ic xj ua w1):=h1
   have HO1:Hid (_=_):=h1.o
   have HS1:Hid (_=_):=h1.s
   have c1:=cell_of h1.c 1 hc1
   have c2:=cell_of h1.c 2 hc2
   have c3:=cell_of h1.c 3 hc3
   clear h1 H1 HO
   go_wp2_with (first
    | (refine wp_ldW rfl _ rfl rfl HO1.out hws ?_)
    | (refine wp_ld rfl _ rfl rfl HS1.out x17 ?_))
   refine (HCOND.out _ _ sj xj ua q1 q2 HI1.out hx.out ws HRC.out HQ1.out HQ2.out).mono ?_
   rintro r w2 ⟨rfl,h2⟩
   obtain ⟨t1,t2,t3,t4,tb⟩:=two_new w2 q1 q2 a17 b17
   have HT1:Hid (_=_):=t1
   have HT2:Hid (_=_):=t2
   have hp8:w.heap.size + 1 + 1 + 1 + 1<w2.heap.size:=heap_lt h2.u
   have HI3:Hid (ArIn C π T _ w wa ic xj ua _):=h2.call tb
   have T3:Hid (_=_):=t3
   have T4:Hid (_=_):=t4
   have HO3:Hid (_=_):=HI3.out.o
   have HU3:Hid (_=_):=HI3.out.u
   clear t1 t2 t3 t4 tb h2 c1 c2 c3 HO1 HS1 HI1
   go_wp2_with (first
    | (refine wp_st rfl _ _ rfl rfl (c:=#[.bool false,.int .i64 0,.int .i64 0,.int .i64 0,.int .i64 0,.int .i64 0,.int .i64 0,.int .i64 0,.int .i64 0,.int .i64 0,.int .i64 0,.int .i64 0,.int .i64 0,.int .i64 0,.int .i64 0,.int .i64 0,.int .i64 0]) (d:=q1) rfl (by exact HT1.out) rfl a17 a1o ?_)
    | (refine wp_st rfl _ _ rfl rfl (c:=#[.bool false,.int .i64 0,.int .i64 0,.int .i64 0,.int .i64 0,.int .i64 0,.int .i64 0,.int .i64 0,.int .i64 0,.int .i64 0,.int .i64 0,.int .i64 0,.int .i64 0,.int .i64 0,.int .i64 0,.int .i64 0,.int .i64 0]) (d:=q2) rfl (by exact HT2.out) rfl b17 b1o ?_)
    | (refine wp_ldW rfl _ rfl rfl (c:=wa) (by exact HO3.out) hws ?_)
    | (refine wp_ld rfl _ rfl rfl (c:=ua) (by exact HU3.out) u17 ?_)
    | (refine wp_ld rfl _ rfl rfl (c:=q2) (by exact T4.out) b17 ?_))
   generalize ((((w2.alloc (.cells #[.bool false,.int .i64 0,.int .i64 0,.int .i64 0,.int .i64 0,.int .i64 0,.int .i64 0,.int .i64 0,.int .i64 0,.int .i64 0,.int .i64 0,.int .i64 0,.int .i64 0,.int .i64 0,.int .i64 0,.int .i64 0,.int .i64 0] 203)).alloc (.cells #[.bool false,.int .i64 0,.int .i64 0,.int .i64 0,.int .i64 0,.int .i64 0,.int .i64 0,.int .i64 0,.int .i64 0,.int .i64 0,.int .i64 0,.int .i64 0,.int .i64 0,.int .i64 0,.int .i64 0,.int .i64 0,.int .i64 0] 203)).setCells w2.heap.size 0 q1.toList).setCells (w2.heap.size + 1) 0 q2.toList)=w3 at *
   refine (HJOIN.out w3 _ oj (CN sj).2.2 ua q2 oa xj ua HI3.out hu.out HQ2.out wo wc.2 HOA.out).mono ?_
   rintro r w4 ⟨rfl,b4⟩
   have h4:=HI3.out.call b4
   have HU4:Hid (_=_):=h4.u
   have HI5:Hid (ArIn C π T _ w wa ic xj oa _):=h4.putU HA.out oa u17 o17
   have hw3:=heap_lt T3.out
   have t5:(w4.setCells (w.heap.size + 1 + 1 + 1 + 1) 0 oa.toList).heap[w2.heap.size]?=some (.cells q1 203):=(setCells_other _ _ _ _ (by omega)).trans ((b4.block _ (heap_lt T3.out)).trans T3.out)
   have T5:Hid (_=_):=t5
   have HO5:Hid (_=_):=HI5.out.o
   have c4:=cell_of HI5.out.c 4 hc4
   clear b4 h4 t5 HO3 HU3 T3 T4 HT1 HT2 HI3
   go_wp2_with (first
    | (refine wp_st rfl _ _ rfl rfl (c:=ua) (d:=oa) rfl (by exact HU4.out) u17 o17 o1o ?_)
    | (refine wp_ldW rfl _ rfl rfl (c:=wa) (by exact HO5.out) hws ?_)
    | (refine wp_ld rfl _ rfl rfl (c:=q1) (by exact T5.out) a17 ?_))
   generalize w4.setCells (w.heap.size + 1 + 1 + 1 + 1) 0 oa.toList=w5 at *
   refine (HBLK.out w5 _ (CN sj).2.1 xj oa q1 sa HI5.out HQ1.out wc.1 HRB.out HSA.out).mono ?_
   rintro r w6 ⟨rfl,h6,_⟩
   have HS6:Hid (_=_):=h6.s
   have HQ:Hid (ArIn C π T _ w wa ic sa oa _):=h6.putS HA.out sa x17 s17
   clear h6 c4 T5 HO5 HI5 HU4
   go_wp2_with (first
    | (refine wp_st rfl _ _ rfl rfl (c:=xj) (d:=sa) rfl (by exact HS6.out) x17 s17 s1o ?_))
   exact ⟨⟨j + 1,m,_,_,_,sa,oa,by omega,by go_num,HQ,HON,HSA,HOA⟩,by simp [intOf]; omega⟩
end WC
end Go.Proofs.YtiopfihjmkfdmaaGreatDoor
