import Derived.Test.YtiopfihjmkfdmaaGreatDoorX37
import Derived.MapKept
namespace Go.Proofs.YtiopfihjmkfdmaaGreatDoor
namespace WC
open Go.RowKit
set_option maxRecDepth 100000
set_option maxHeartbeats 1000000
def litV (x:Sp.Cg):List Lit:=[.int .i64 (vA x),.int .i64 (vB x)]
theorem lits_num (D:Nat) (n:Int) (h:(Lit.int .i64 n).wf=true):Tryz.prog.keyLits (D + 1) 2 [.int .i64 n]=some [.int .i64 n]:=by
 unfold Program.keyLits
 rw [Tryz.underlying2]
 exact if_pos ⟨rfl,h⟩
theorem lits_bool (D:Nat) (b:Bool):Tryz.prog.keyLits (D + 1) 4 [.bool b]=some [.bool b]:=by
 unfold Program.keyLits
 rw [Tryz.underlying4]
theorem lits_int (D:Nat) (n:Int) (h:(Lit.int .i64 n).wf=true):Tryz.prog.keyLits (D + 1) 3 [.int .i64 n]=some [.int .i64 n]:=by
 unfold Program.keyLits
 rw [Tryz.underlying3]
 exact if_pos ⟨rfl,h⟩
theorem cells_num:Tryz.prog.cellsOf 2=1:=by kernel_rfl
theorem cells_bool:Tryz.prog.cellsOf 4=1:=by kernel_rfl
theorem cells_int:Tryz.prog.cellsOf 3=1:=by kernel_rfl
theorem cells_val:Tryz.prog.cellsOf 126=2:=by kernel_rfl
theorem cells_arr:Tryz.prog.cellsOf 201=16:=by kernel_rfl
theorem cells_st:Tryz.prog.cellsOf 203=17:=by kernel_rfl
theorem cells_en:Tryz.prog.cellsOf 356=18:=by kernel_rfl
theorem lits_val (D:Nat) (x:Sp.Cg) (h:NumOk x):Tryz.prog.keyLits (D + 1 + 1) 126 [.int .i64 ((x.m:Nat):Int),.int .i64 x.r]=some (litV x):=by
 unfold Program.keyLits
 rw [Tryz.underlying126,cells_val]
 refine (if_pos ⟨rfl,by kernel_rfl⟩).trans ?_
 simp only [List.mapM_cons,List.mapM_nil,cells_num,List.drop_zero,List.drop_succ_cons,List.take_succ_cons,List.take_zero,lits_num D _ h.1,lits_num D _ h.2]
 rfl
theorem lits_arr (D:Nat) (e:Fin 8→Sp.Cg) (h:∀ k,NumOk (e k)):Tryz.prog.keyLits (D + 1 + 1 + 1) 201 [.int .i64 (((e 0).m:Nat):Int),.int .i64 (e 0).r,.int .i64 (((e 1).m:Nat):Int),.int .i64 (e 1).r,.int .i64 (((e 2).m:Nat):Int),.int .i64 (e 2).r,.int .i64 (((e 3).m:Nat):Int),.int .i64 (e 3).r,.int .i64 (((e 4).m:Nat):Int),.int .i64 (e 4).r,.int .i64 (((e 5).m:Nat):Int),.int .i64 (e 5).r,.int .i64 (((e 6).m:Nat):Int),.int .i64 (e 6).r,.int .i64 (((e 7).m:Nat):Int),.int .i64 (e 7).r]=some (litV (e 0) ++ (litV (e 1) ++ (litV (e 2) ++ (litV (e 3) ++ (litV (e 4) ++ (litV (e 5) ++ (litV (e 6) ++ litV (e 7)))))))):=by
 unfold Program.keyLits
 rw [Tryz.underlying201,cells_arr]
 refine (if_pos rfl).trans ?_
 simp only [cells_val,show List.range 8=[0,1,2,3,4,5,6,7] from rfl,List.mapM_cons,List.mapM_nil,Nat.reduceMul,List.drop_zero,List.drop_succ_cons,List.take_succ_cons,List.take_zero,lits_val D _ (h _)]
 rfl
def valC (e:Fin 8→Sp.Cg):List Value:=[.int .i64 (((e 0).m:Nat):Int),.int .i64 (e 0).r,.int .i64 (((e 1).m:Nat):Int),.int .i64 (e 1).r,.int .i64 (((e 2).m:Nat):Int),.int .i64 (e 2).r,.int .i64 (((e 3).m:Nat):Int),.int .i64 (e 3).r,.int .i64 (((e 4).m:Nat):Int),.int .i64 (e 4).r,.int .i64 (((e 5).m:Nat):Int),.int .i64 (e 5).r,.int .i64 (((e 6).m:Nat):Int),.int .i64 (e 6).r,.int .i64 (((e 7).m:Nat):Int),.int .i64 (e 7).r]
theorem stC_val (s:ST):∃ b e,(stC s).toList=.bool b :: valC e∧b=s.isSome∧((∃ g,s=some g∧e=g)∨(s=none∧e=fun _=>⟨0,0⟩)):=by
 cases s with
 | none=>exact ⟨false,fun _=>⟨0,0⟩,by rfl,rfl,.inr ⟨rfl,rfl⟩⟩
 | some e=>exact ⟨true,e,by rfl,rfl,.inl ⟨e,rfl,rfl⟩⟩
theorem stC_ok {π:Par} {s:ST} (hs:Sp.Wf (Kr π) s):∃ b e,(stC s).toList=.bool b :: valC e∧∀ k,NumOk (e k):=by
 obtain ⟨b,e,h1,_,h⟩:=stC_val s
 refine ⟨b,e,h1,?_⟩
 rcases h with ⟨g,rfl,rfl⟩ | ⟨_,rfl⟩
 ·exact fun k=>num_ok (hs _ rfl k)
 ·exact fun _=>num_zero
theorem valC_inj {e g:Fin 8→Sp.Cg} (h:valC e=valC g):e=g:=by
 unfold valC at h
 simp only [List.cons.injEq,Value.int.injEq,true_and,and_true] at h
 funext k
 match k with
 | 0=>exact v_inj h.1 h.2.1
 | 1=>exact v_inj h.2.2.1 h.2.2.2.1
 | 2=>exact v_inj h.2.2.2.2.1 h.2.2.2.2.2.1
 | 3=>exact v_inj h.2.2.2.2.2.2.1 h.2.2.2.2.2.2.2.1
 | 4=>exact v_inj h.2.2.2.2.2.2.2.2.1 h.2.2.2.2.2.2.2.2.2.1
 | 5=>exact v_inj h.2.2.2.2.2.2.2.2.2.2.1 h.2.2.2.2.2.2.2.2.2.2.2.1
 | 6=>exact v_inj h.2.2.2.2.2.2.2.2.2.2.2.2.1 h.2.2.2.2.2.2.2.2.2.2.2.2.2.1
 | 7=>exact v_inj h.2.2.2.2.2.2.2.2.2.2.2.2.2.2.1 h.2.2.2.2.2.2.2.2.2.2.2.2.2.2.2
theorem stC_inj {s t:ST} (h:stC s=stC t):s=t:=by
 obtain ⟨b,e,h1,h2,h3⟩:=stC_val s
 obtain ⟨b',e',h1',h2',h3'⟩:=stC_val t
 rw [h,h1'] at h1
 injection h1 with hb he
 have he:=valC_inj he
 injection hb with hb
 subst he
 rcases h3 with ⟨g,rfl,rfl⟩ | ⟨rfl,rfl⟩ <;> rcases h3' with ⟨g',rfl,rfl⟩ | ⟨rfl,h5⟩
 ·rfl
 ·rw [h2,h2'] at hb; cases hb
 ·rw [h2,h2'] at hb; cases hb
 ·rfl
theorem lits_st (D:Nat) (b:Bool) (e:Fin 8→Sp.Cg) (h:∀ k,NumOk (e k)):∃ L,Tryz.prog.keyLits (D + 1 + 1 + 1 + 1) 203 (.bool b :: valC e)=some L:=by
 unfold Program.keyLits
 rw [Tryz.underlying203,cells_st]
 refine ⟨?_,(if_pos ⟨rfl,by kernel_rfl⟩).trans ?_⟩
 rotate_left
 ·unfold valC
  simp only [List.mapM_cons,List.mapM_nil,cells_bool,cells_arr,List.drop_zero,List.drop_succ_cons,List.take_succ_cons,List.take_zero,lits_bool,lits_arr D e h]
  rfl
theorem lits_en (D:Nat) (p:Int) (hp:(Lit.int .i64 p).wf=true) (b:Bool) (e:Fin 8→Sp.Cg) (h:∀ k,NumOk (e k)):∃ L,Tryz.prog.keyLits (D + 1 + 1 + 1 + 1 + 1) 356 (.int .i64 p :: .bool b :: valC e)=some L:=by
 obtain ⟨L,hL⟩:=lits_st D b e h
 unfold Program.keyLits
 rw [Tryz.underlying356,cells_en]
 refine ⟨?_,(if_pos ⟨rfl,by kernel_rfl⟩).trans ?_⟩
 rotate_left
 ·unfold valC at hL ⊢
  simp only [List.mapM_cons,List.mapM_nil,cells_int,cells_st,List.drop_zero,List.drop_succ_cons,List.take_succ_cons,List.take_zero,lits_int _ p hp,hL]
  rfl
theorem many_types:10≤Tryz.prog.types.size:=by exact Nat.le_of_ble_eq_true (by kernel_rfl)
theorem key_st {π:Par} {s:ST} (hs:Sp.Wf (Kr π) s):∃ l,keyOf Tryz.prog 203 (.agg (stC s))=some l:=by
 obtain ⟨b,e,h1,h2⟩:=stC_ok hs
 obtain ⟨D,hD⟩:∃ D,Tryz.prog.types.size + 1=D + 1 + 1 + 1 + 1:=⟨Tryz.prog.types.size - 3,by have:=many_types; omega⟩
 obtain ⟨L,hL⟩:=lits_st D b e h2
 unfold keyOf
 rw [Tryz.underlying203,hD]
 have hk:Tryz.prog.keyType 203=true:=by kernel_rfl
 have hf:(Value.agg (stC s)).formed Tryz.prog 203=true:=by
  simp only [Value.formed,Tryz.underlying203,cells_st,stC_size]
  rfl
 refine ⟨?_,(if_pos (by rw [hk,hf]; rfl)).trans ?_⟩
 rotate_left
 ·show Option.map _ (Tryz.prog.keyLits _ _ (stC s).toList)=_
  rw [h1,hL]
  rfl
theorem keyA_list (p:Int) (s:ST):(keyA p s).toList=.int .i64 p :: (stC s).toList:=by simp [keyA]
theorem key_en {π:Par} {s:ST} (hs:Sp.Wf (Kr π) s) {p:Int} (hp:0≤p∧p≤1000000):∃ l,keyOf Tryz.prog 356 (.agg (keyA p s))=some l:=by
 obtain ⟨b,e,h1,h2⟩:=stC_ok hs
 obtain ⟨D,hD⟩:∃ D,Tryz.prog.types.size + 1=D + 1 + 1 + 1 + 1 + 1:=⟨Tryz.prog.types.size - 4,by have:=many_types; omega⟩
 have e1:IntKind.i64.min=-9223372036854775808:=rfl
 have e2:IntKind.i64.max=9223372036854775807:=rfl
 obtain ⟨L,hL⟩:=lits_en D p (by simp only [Lit.wf,e1,e2,Bool.and_eq_true,decide_eq_true_eq]; omega) b e h2
 unfold keyOf
 rw [Tryz.underlying356,hD]
 have hk:Tryz.prog.keyType 356=true:=by kernel_rfl
 have hz:(keyA p s).size=18:=by rw [← Array.length_toList,keyA_list,List.length_cons,stC_len]
 have hf:(Value.agg (keyA p s)).formed Tryz.prog 356=true:=by
  simp only [Value.formed,Tryz.underlying356,cells_en,hz]
  rfl
 refine ⟨?_,(if_pos (by rw [hk,hf]; rfl)).trans ?_⟩
 rotate_left
 ·show Option.map _ (Tryz.prog.keyLits _ _ (keyA p s).toList)=_
  rw [keyA_list,h1,hL]
  rfl
theorem law_st:WideMaps.KeyLaw Tryz.prog 203:=deep_law (m:=8) (by omega) (by kernel_rfl) (by kernel_rfl) (by rw [Tryz.underlying203])
theorem law_en:WideMaps.KeyLaw Tryz.prog 356:=deep_law (m:=8) (by omega) (by kernel_rfl) (by kernel_rfl) (by rw [Tryz.underlying356])
theorem eq_st {π:Par} {s t:ST} (hs:Sp.Wf (Kr π) s) (ht:Sp.Wf (Kr π) t) (w:World):(Op.equal 203 (.agg (stC s)) (.agg (stC t))).run Tryz.prog w=.ok (Sp.eqS (Dm π) s t) w:=by
 obtain ⟨l,hl⟩:=key_st hs
 obtain ⟨l',hl'⟩:=key_st ht
 obtain ⟨r,hr,hiff⟩:=run_equal_deep w (m:=8) (by omega) (by kernel_rfl) (by rw [Tryz.underlying203]) hl hl'
 rw [hr]
 congr 1
 have h2:r=true ↔ s=t:=by
  rw [hiff]
  constructor
  ·intro e
   subst e
   have:=law_st.inj hl hl'
   injection this with this
   exact stC_inj this
  ·intro e
   subst e
   rw [hl] at hl'
   injection hl'
 have h3:=Sp.eqS_iff (Dm π) s t
 cases hc:Sp.eqS (Dm π) s t with
 | true=>exact h2.2 (h3.1 hc)
 | false =>
  cases r with
  | false=>rfl
  | true=>rw [h3.2 (h2.1 rfl)] at hc; cases hc
end WC
end Go.Proofs.YtiopfihjmkfdmaaGreatDoor
namespace Go.Proofs.YtiopfihjmkfdmaaGreatDoor
namespace WC
open Go.RowKit
set_option maxRecDepth 100000
set_option maxHeartbeats 1000000
theorem info17l (s:ST):(Tryz.prog.info? 203).map (·.size)=some (stC s).toList.length:=by rw [infoSt,stC_len]
structure PointAt (C:Cx) (F:Fd) (wa xa:Array Value) (k:Nat) (W:World):Prop where
 o:W.heap[k]?=some (.cells wa 200)
 x:W.heap[k + 1]?=some (.cells xa 203)
 f:W.heap[C.fb]?=some (.cells #[.slice (some ⟨C.gf,0,none⟩) F.1.length C.cf,.slice (some ⟨C.gs,0,none⟩) F.2.length C.cs] 198)
theorem AnAt.pointS {C:Cx} {π:Par} {T:Tab} {F:Fd} {w:World} (h:AnAt C π T F w) {p:Nat} {f u:ST} (hp:F.1[p]?=some f) {s:ST} (hu:Sp.jn (Dm π) f s=u) (hs:Sp.Wf (Kr π) s) :
  AnAt C π T (Sp.tell (Dm π) F (Sp.telP (Dm π) (p:Int) s)) (w.setCells C.gf (p * 17) (stC u).toList)∧AKeep C w (w.setCells C.gf (p * 17) (stC u).toList):=by
 cases s with
 | some e=>exact h.point hp hu (hs e rfl)
 | none =>
  have hu':u=f:=by rw [← hu]; cases f <;> rfl
  subst hu'
  obtain ⟨n1,n2,n3,n4,n5,n6⟩:=h.ne
  obtain ⟨es,cl,hm,hE⟩:=h.memo
  have hk:AKeep C w (w.setCells C.gf (p * 17) (stC u).toList) :=
   ⟨setCells_below h.bgf _ _ _ _ (Below.refl _ _),fun k _ k1 _ _=>setCells_other _ _ _ _ k1⟩
  refine ⟨⟨(setCells_other _ _ _ _ n1).trans h.hfb,?_,(setCells_other _ _ _ _ (Ne.symm n3)).trans h.hgs,⟨es,cl,(setCells_other _ _ _ _ n4).trans hm,hE⟩,h.does.below hk.below,h.turns.below hk.below h.big,h.big,h.bfb,h.bgf,h.bgs,h.bm,h.wfF⟩,hk⟩
  have hpl:p<F.1.length:=(List.getElem?_eq_some_iff.1 hp).1
  obtain ⟨c',h1,h2,h3,h4⟩:=setCells_block (stC u).toList (p * 17) w (factCells F.1).toArray h.hgf (by
   rw [stC_len,List.size_toArray]
   unfold factCells
   rw [chunk_len stC_len]
   have:(p + 1) * 17≤F.1.length * 17:=Nat.mul_le_mul_right _ hpl
   omega)
  rw [h1]
  have e:c'=(factCells F.1).toArray:=by
   refine Array.ext_getElem? fun i=>?_
   by_cases hi:p * 17≤i∧i<p * 17 + 17
   ·have h5:=h3 (i - p * 17) (by rw [stC_len]; omega)
    rw [show p * 17 + (i - p * 17)=i by omega] at h5
    rw [h5,List.getElem?_toArray]
    have h6:(F.1.flatMap fun s=>(stC s).toList)[p * 17 + (i - p * 17)]?=(stC u).toList[i - p * 17]?:=chunk_get stC_len F.1 p u (i - p * 17) hp (by omega)
    rw [show p * 17 + (i - p * 17)=i by omega] at h6
    exact h6.symm
   ·rw [h4 i (by rw [stC_len]; omega)]
  rw [e]
  rfl
theorem point_told (C:Cx) (π:Par) (T:Tab) (F:Fd) (w:World) (h:AnAt C π T F w) (p:Nat) (f u:ST) (hp:F.1[p]?=some f) (s:ST) (hu:Sp.jn (Dm π) f s=u) (he:Sp.Wf (Kr π) s) :
  Calls Tryz.prog 80 #[.agg (wk C true),.int .i64 (p:Nat),.agg (stC s)] w fun r w'=>r=.returned (.tuple #[])∧AnAt C π T (Sp.tell (Dm π) F (Sp.telP (Dm π) (p:Int) s)) w'∧AKeep C w w':=by
 have hpl:p<F.1.length:=(List.getElem?_eq_some_iff.1 hp).1
 have hpl':((p:Nat):Int)<((F.1.length:Nat):Int):=by omega
 have hw7:(wk C true)[7]?=some (.pointer (some ⟨C.fb,0,none⟩)):=rfl
 have hws:(wk C true).size=8:=rfl
 have HJ:Hid (∀ W,Does C.base π C.dv W→Calls _ _ _ W _):=fun W hd=>jn_calls (B:=C.base) (π:=π) C.dv C.dom C.delay C.narrow C.unroll C.th C.m (some ⟨C.fb,0,none⟩) f s u W hd hu (h.wfF f (List.mem_of_getElem? hp)) he
 have hwd:wkA C.dv C.dom C.delay C.narrow C.unroll C.th C.m (some ⟨C.fb,0,none⟩)=wk C true:=rfl
 rw [hwd] at HJ
 clear hwd
 generalize wk C true=wa at *
 have hx17:(stC s).size=17:=stC_size _
 have HX17:Hid (_=_):=info17l s
 generalize hxa:stC s=xa at *
 have b0:Below w.heap.size w ((w.alloc (.cells wa 200)).alloc (.cells xa 203)).drew:=((below_alloc1 w _).alloc (by simp) _).drew
 have HA:Hid (AnAt C π T F ((w.alloc (.cells wa 200)).alloc (.cells xa 203)).drew):=h.call b0
 have HK:Hid (AKeep C w ((w.alloc (.cells wa 200)).alloc (.cells xa 203)).drew):=AKeep.of_below b0 h.le
 have H0:Hid (PointAt C F wa xa w.heap.size ((w.alloc (.cells wa 200)).alloc (.cells xa 203)).drew):=⟨heap_alloc_old (heap_alloc_new w _),by rw [show w.heap.size + 1=(w.alloc (.cells wa 200)).heap.size by simp]; exact heap_alloc_new _ _,HA.out.hfb⟩
 have d7:=cell_of H0.out.o 7 hw7
 have d7':((w.alloc (.cells wa 200)).alloc (.cells xa 203)).cell? ⟨w.heap.size,7,none⟩=some (.pointer (some ⟨C.fb,0,none⟩)):=d7
 have HN:Hid (AnAt C π T F w):=h
 have HP:Hid (F.1[p]?=some f):=hp
 have HU:Hid (Sp.jn (Dm π) f s=u):=hu
 have hlt:=h.lt
 have hne:=h.ne
 clear h hp hu b0 d7
 obtain ⟨o,ho⟩:∃ o,p * 17=o:=⟨_,rfl⟩
 have HR:Hid (∀ W,AnAt C π T F W→W.rangeAt C.gf o (stC f).toList∧W.there C.gf o 17∧(AnAt C π T (Sp.tell (Dm π) F (Sp.telP (Dm π) (p:Int) s)) (W.setCells C.gf o (stC u).toList)∧AKeep C W (W.setCells C.gf o (stC u).toList))):=fun W hW=>by rw [← ho]; exact ⟨hW.fact HP.out,hW.factThere hpl,hW.pointS HP.out HU.out he⟩
 go_enter Tryz.func80,Tryz.ntmps80
 go_wp2_with fail
 generalize (w.alloc (.cells wa 200)).alloc (.cells xa 203)=W at *
 refine wp_region_held_drew (S:=fun w':World=>PointAt C F wa xa w.heap.size w') (by kernel_rfl) H0.out (fun hHeld=>?_)
 refine tky 15 rfl (yieldsIf_load_mid (by rfl) _ _ rfl _ _ rfl (xa).toList _ (fun w' h=>range_of h.x) Tryz.underlying203 rfl (by rw [infoSt,Array.length_toList,hx17])) hHeld ?_
 simp only [Act.put]
 refine tky 6 rfl (yieldsIf_load_mid (by rfl) _ _ rfl _ _ rfl (wa).toList _ (fun w' h=>range_of h.o) Tryz.underlying200 rfl (by rw [infoWk,Array.length_toList,hws])) hHeld ?_
 simp only [Act.put]
 refine tk 0 (.pointer (some ⟨w.heap.size,7,none⟩)) rfl (fun w' h=>by go_simp) hHeld ?_
 simp only [Act.put]
 refine tk 1 (.pointer (some ⟨C.fb,0,none⟩)) rfl (fun w' h=>by have d:=cell_of h.o 7 hw7; go_simp) hHeld ?_
 simp only [Act.put]
 refine tk 2 (.pointer (some ⟨C.fb,0,none⟩)) rfl (fun w' h=>by go_simp) hHeld ?_
 simp only [Act.put]
 refine tk 3 (.pointer (some ⟨C.fb,0,none⟩)) rfl (fun w' h=>by go_simp) hHeld ?_
 simp only [Act.put]
 refine tk 4 (.slice (some ⟨C.gf,0,none⟩) F.1.length C.cf) rfl (fun w' h=>by have d:=cell_of h.f 0 rfl; go_simp) hHeld ?_
 simp only [Act.put]
 refine tk 5 (.int .i64 (p:Nat)) rfl (fun w' h=>by go_simp) hHeld ?_
 simp only [Act.put]
 refine tk 7 (.pointer (some ⟨w.heap.size,7,none⟩)) rfl (fun w' h=>by go_simp) hHeld ?_
 simp only [Act.put]
 refine tk 8 (.pointer (some ⟨C.fb,0,none⟩)) rfl (fun w' h=>by have d:=cell_of h.o 7 hw7; go_simp) hHeld ?_
 simp only [Act.put]
 refine tk 9 (.pointer (some ⟨C.fb,0,none⟩)) rfl (fun w' h=>by go_simp) hHeld ?_
 simp only [Act.put]
 refine tk 10 (.pointer (some ⟨C.fb,0,none⟩)) rfl (fun w' h=>by go_simp) hHeld ?_
 simp only [Act.put]
 refine tk 11 (.slice (some ⟨C.gf,0,none⟩) F.1.length C.cf) rfl (fun w' h=>by have d:=cell_of h.f 0 rfl; go_simp) hHeld ?_
 simp only [Act.put]
 refine tk 12 (.int .i64 (p:Nat)) rfl (fun w' h=>by go_simp) hHeld ?_
 simp only [Act.put]
 refine tk 13 (.pointer (some ⟨C.gf,o,none⟩)) rfl (fun w' h=>by go_simp) hHeld ?_
 simp only [Act.put]
 refine rd1 14 fun K hK=>?_
 simp only [gsb,gsa,Array.toArray_toList]
 rw [if_pos (by rfl)]
 refine rd_st _ rfl rfl (HR.out _ HA.out).1 (stC_size f) ?_
 simp only [Act.put]
 refine hK.out _ _ hHeld (fun hHeld=>?_)
 clear hK K
 refine rd1 16 fun K hK=>?_
 simp only [gsb,gsa]
 go_simp
 refine (HJ.out _ HA.out.does).mono ?_
 rintro r w1 ⟨rfl,b1⟩
 go_wp2_with fail
 have HA1:Hid (AnAt C π T F w1):=HA.out.call b1
 have HK1:Hid (AKeep C w w1):=HK.out.more b1 HN.out.le
 have hs1:PointAt C F wa xa w.heap.size w1:=⟨(b1.block _ (heap_lt hHeld.o)).trans hHeld.o,(b1.block _ (heap_lt hHeld.x)).trans hHeld.x,(b1.block _ (heap_lt hHeld.f)).trans hHeld.f⟩
 refine hK.out _ _ hs1 (fun hHeld=>?_)
 clear hK K hs1 b1
 refine tk 17 (.pointer (some ⟨C.gf,o,none⟩)) rfl (fun w' h=>by go_simp) hHeld ?_
 simp only [Act.put]
 refine rd1 18 fun K hK=>?_
 simp only [gsb,gsa]
 rw [if_pos (by rfl)]
 refine wr_st _ _ rfl rfl rfl (HR.out _ HA1.out).2.1 (stC_size u) (stC_one u) ?_
 refine hK.out _ _ ⟨(setCells_other _ _ _ _ (by omega)).trans hHeld.o,(setCells_other _ _ _ _ (by omega)).trans hHeld.x,(setCells_other _ _ _ _ hne.1).trans hHeld.f⟩ (fun _=>?_)
 clear hK K
 refine wpAnyH_done (by kernel_rfl) ?_ _
 have R:Hid (_∧_):=(HR.out _ HA1.out).2.2
 go_wp2_with fail
 go_returns
 exact ⟨rfl,R.out.1,HK1.out.trans R.out.2⟩
theorem point_quiet (C:Cx) (p:Int) (s:ST) (w:World) :
  Calls Tryz.prog 80 #[.agg (wk C false),.int .i64 p,.agg (stC s)] w fun e w'=>e=.returned (.tuple #[])∧Below w.heap.size w w':=by
 have hw7:(wk C false)[7]?=some (.pointer none):=rfl
 generalize wk C false=wa at *
 generalize stC s=xa at *
 have hb:((w.alloc (.cells wa 200)).alloc (.cells xa 203)).heap[w.heap.size]?=some (.cells wa 200):=heap_alloc_old (heap_alloc_new w _)
 have d7:=cell_of hb 7 hw7
 clear hb
 go_enter Tryz.func80,Tryz.ntmps80
 go_wp2_with fail
 go_returns
 exact ⟨rfl,by go_grown⟩
theorem pointS_calls (C:Cx) (π:Par) (T:Tab) (F:Fd) (b:Bool) (w:World) (h:AnAt C π T F w) (p:Int) (s:ST) (hs:Sp.Wf (Kr π) s) (hr:b=true→0≤p∧p.toNat<F.1.length) :
  Calls Tryz.prog 80 #[.agg (wk C b),.int .i64 p,.agg (stC s)] w fun r w'=>r=.returned (.tuple #[])∧AnAt C π T (told π b F (Sp.telP (Dm π) p s)) w'∧AKeep C w w':=by
 cases b with
 | false =>
  refine (point_quiet C p s w).mono ?_
  rintro e w' ⟨rfl,k⟩
  exact ⟨rfl,h.call k,AKeep.of_below k h.le⟩
 | true =>
  obtain ⟨h1,h2⟩:=hr rfl
  obtain ⟨n,rfl⟩:∃ n:Nat,p=(n:Int):=⟨p.toNat,by omega⟩
  exact point_told C π T F w h n _ _ (List.getElem?_eq_getElem (by simpa using h2)) s rfl hs
theorem point_calls (C:Cx) (π:Par) (T:Tab) (F:Fd) (b:Bool) (w:World) (h:AnAt C π T F w) (p:Int) (e:Fin 8→Sp.Cg) (he:∀ k,Wv (e k)) (hr:Rng b F [.point p e]) :
  Calls Tryz.prog 80 #[.agg (wk C b),.int .i64 p,.agg (stC (some e))] w fun r w'=>r=.returned (.tuple #[])∧AnAt C π T (told π b F [.point p e]) w'∧AKeep C w w' :=
 pointS_calls C π T F b w h p (some e) (Sp.Wf.some he) fun hb=>hr hb _ (List.mem_singleton.2 rfl)
end WC
end Go.Proofs.YtiopfihjmkfdmaaGreatDoor
namespace Go.Proofs.YtiopfihjmkfdmaaGreatDoor
namespace WC
open Go.RowKit
set_option maxRecDepth 100000
set_option maxHeartbeats 1000000
theorem infoEn:(Tryz.prog.info? 356).map (·.size)=some 18:=by kernel_rfl
theorem infoPa:(Tryz.prog.info? 358).map (·.size)=some 18:=by kernel_rfl
theorem keyA_size (p:Int) (s:ST):(keyA p s).size=18:=by rw [← Array.length_toList,keyA_list,List.length_cons,stC_len]
theorem keyA_one (p:Int) (s:ST):(keyA p s).all (·.oneCell')=true:=by
 have h:=stC_one s
 rw [Array.all_eq_true_iff_forall_mem] at h ⊢
 intro x hx
 rcases Array.mem_append.1 hx with hx | hx
 ·simp at hx; subst hx; rfl
 ·exact h x hx
theorem pasA_size (t:ST) (d:Bool):(pasA t d).size=18:=by unfold pasA; rw [Array.size_push,stC_size]
theorem pasA_one (t:ST) (d:Bool):(pasA t d).all (·.oneCell')=true:=by
 have h:=stC_one t
 rw [Array.all_eq_true_iff_forall_mem] at h ⊢
 intro x hx
 rcases Array.mem_push.1 hx with hx | hx
 ·exact h x hx
 ·subst hx; rfl
theorem pasA_told (t:ST) (d:Bool):(pasA t d)[17]?=some (.bool d):=by
 unfold pasA
 rw [Array.getElem?_push,stC_size]
 rfl
theorem pasA_state (t:ST) (d:Bool) {j:Nat} (hj:j<17):(pasA t d)[j]?=(stC t)[j]?:=by
 unfold pasA
 rw [Array.getElem?_push,stC_size,if_neg (by omega)]
theorem arr17 {xa:Array Value} (h:xa.size=17):∃ a0 a1 a2 a3 a4 a5 a6 a7 a8 a9 a10 a11 a12 a13 a14 a15 a16,xa=#[a0,a1,a2,a3,a4,a5,a6,a7,a8,a9,a10,a11,a12,a13,a14,a15,a16]:=by
 rcases xa with ⟨l⟩
 match l,h with
 | [a0,a1,a2,a3,a4,a5,a6,a7,a8,a9,a10,a11,a12,a13,a14,a15,a16],_=>exact ⟨a0,a1,a2,a3,a4,a5,a6,a7,a8,a9,a10,a11,a12,a13,a14,a15,a16,rfl⟩
theorem build_en (p:Int) (s:ST) (w:World):(Instr.build 356 #[(0,.int .i64 p),(1,.agg (stC s))]).run Tryz.prog w=.ok (.agg (keyA p s)) w:=by
 unfold keyA
 obtain ⟨a0,a1,a2,a3,a4,a5,a6,a7,a8,a9,a10,a11,a12,a13,a14,a15,a16,e⟩:=arr17 (stC_size s)
 rw [e]
 kernel_rfl
theorem build_pa (t:ST) (d:Bool) (w:World):(Instr.build 358 #[(0,.agg (stC t)),(1,.bool d)]).run Tryz.prog w=.ok (.agg (pasA t d)) w:=by
 unfold pasA
 obtain ⟨a0,a1,a2,a3,a4,a5,a6,a7,a8,a9,a10,a11,a12,a13,a14,a15,a16,e⟩:=arr17 (stC_size t)
 rw [e]
 kernel_rfl
theorem keyA_inj {p p':Int} {s s':ST} (h:(Value.agg (keyA p s))=.agg (keyA p' s')):p=p'∧s=s':=by
 injection h with h
 have h2:=congrArg Array.toList h
 rw [keyA_list,keyA_list] at h2
 injection h2 with h3 h4
 injection h3 with _ h3
 exact ⟨h3,stC_inj (Array.toList_inj.1 h4)⟩
abbrev mapT:TypeId:=194
theorem memo_keys {π:Par} {T:Tab} {F:Fd} {es:Array MapEntry} (hE:∀ x ∈ es.toList,MemoE π T F x):∀ e ∈ es.toList,∃ l,keyOf Tryz.prog 356 e.key=some l:=fun e he=>by
 obtain ⟨p,s,t,d,h1,h2,h3,h4,h5,h6⟩:=hE e he
 rw [h1]
 exact key_en h3 h4
theorem memo_look {π:Par} {T:Tab} {F:Fd} {es:Array MapEntry} {cl m:Nat} {w:World} (hm:w.heap[m]?=some (.map es cl)) (hE:∀ x ∈ es.toList,MemoE π T F x) {s:ST} (hs:Sp.Wf (Kr π) s) {p:Int} (hp:0≤p∧p≤1000000) :
  ∃ t d ok,(Instr.lookup mapT (.map (some m)) (.agg (keyA p s)) true).run Tryz.prog w=.ok (.tuple #[.agg (pasA t d),.bool ok]) w∧(ok=true→(T p s).2=t∧(d=true→Sp.ToldAll (Kr π) F (T p s).1)):=by
 obtain ⟨l,hl⟩:=key_en hs hp
 rcases law_en.find w hl es.toList (memo_keys hE) with ⟨h1,h2⟩ | ⟨j,e0,h1,h2,h3⟩
 ·refine ⟨none,false,false,?_,fun h=>by cases h⟩
  simp [Instr.lookup,run_underlying Tryz.underlying194,MapKept.run_getObj_map hm,law_en.check w _ hl,h1,Result.andThen]
  rfl
 ·obtain ⟨p',s',t,d,k1,k2,k3,k4,k5,k6⟩:=hE e0 (List.mem_of_getElem? h2)
  rw [h3] at k1
  obtain ⟨rfl,rfl⟩:=keyA_inj k1
  refine ⟨t,d,true,?_,fun _=>⟨k5,k6⟩⟩
  simp [Instr.lookup,run_underlying Tryz.underlying194,MapKept.run_getObj_map hm,law_en.check w _ hl,h1,k2,Result.andThen]
theorem memo_put {π:Par} {T:Tab} {F:Fd} {es:Array MapEntry} {cl m:Nat} {w:World} (hm:w.heap[m]?=some (.map es cl)) (hE:∀ x ∈ es.toList,MemoE π T F x) {s:ST} (hs:Sp.Wf (Kr π) s) {p:Int} (hp:0≤p∧p≤1000000) {t:ST} {d:Bool} (h1:(T p s).2=t) (h2:d=true→Sp.ToldAll (Kr π) F (T p s).1) :
  ∃ es' cl',(Instr.mapUpdate mapT (.map (some m)) (.agg (keyA p s)) (.agg (pasA t d))).run Tryz.prog w=.ok () { w with heap:=w.heap.setIfInBounds m (.map es' cl') }∧∀ x ∈ es'.toList,MemoE π T F x:=by
 obtain ⟨l,hl⟩:=key_en hs hp
 have hnew:∀ born,MemoE π T F ⟨.agg (keyA p s),.agg (pasA t d),born⟩:=fun born=>⟨p,s,t,d,rfl,rfl,hs,hp,h1,h2⟩
 rcases law_en.find w hl es.toList (memo_keys hE) with ⟨k1,_⟩ | ⟨j,e0,k1,k2,k3⟩
 ·refine ⟨es.push ⟨.agg (keyA p s),.agg (pasA t d),cl⟩,cl + 1,?_,?_⟩
  ·simp [Instr.mapUpdate,run_underlying Tryz.underlying194,MapKept.run_getObj_map hm,law_en.check w false hl,k1,MapKept.run_setObj_map _ hm,Result.andThen]
  ·intro x hx
   simp only [Array.toList_push,List.mem_append,List.mem_singleton] at hx
   rcases hx with hx | rfl
   ·exact hE x hx
   ·exact hnew cl
 ·have hj:es[j]?=some e0:=by simpa using k2
  refine ⟨es.modify j (fun e'=>{ e' with key:=.agg (keyA p s),val:=.agg (pasA t d) }),cl,?_,?_⟩
  ·simp [Instr.mapUpdate,run_underlying Tryz.underlying194,MapKept.run_getObj_map hm,law_en.check w false hl,k1,hj,k3,law_en.stays w hl,MapKept.run_setObj_map _ hm,Result.andThen]
  ·intro x hx
   rw [Array.toList_modify] at hx
   obtain ⟨i,hi⟩:=List.getElem?_of_mem hx
   obtain ⟨y,hy,rfl⟩:=Sp.modify_get hi
   split
   ·exact hnew _
   ·exact hE y (List.mem_of_getElem? hy)
theorem AnAt.memoPut {C:Cx} {π:Par} {T:Tab} {F:Fd} {w:World} (h:AnAt C π T F w) {es:Array MapEntry} {cl:Nat} (hE:∀ x ∈ es.toList,MemoE π T F x) :
  AnAt C π T F { w with heap:=w.heap.setIfInBounds C.m (.map es cl) }∧AKeep C w { w with heap:=w.heap.setIfInBounds C.m (.map es cl) }:=by
 obtain ⟨n1,n2,n3,n4,n5,n6⟩:=h.ne
 have hl:=h.lt
 have hk:AKeep C w { w with heap:=w.heap.setIfInBounds C.m (.map es cl) }:=by
  refine ⟨⟨rfl,rfl,rfl,by simp,fun k hk=>?_⟩,fun k hk _ _ k3=>?_⟩
  ·have:=h.bm
   exact Array.getElem?_setIfInBounds_ne (by omega)
  ·exact Array.getElem?_setIfInBounds_ne (Ne.symm k3)
 refine ⟨⟨?_,?_,?_,⟨es,cl,?_,hE⟩,h.does.below hk.below,h.turns.below hk.below h.big,h.big,h.bfb,h.bgf,h.bgs,h.bm,h.wfF⟩,hk⟩
 ·exact (Array.getElem?_setIfInBounds_ne (Ne.symm n6)).trans h.hfb
 ·exact (Array.getElem?_setIfInBounds_ne n4).trans h.hgf
 ·exact (Array.getElem?_setIfInBounds_ne n5).trans h.hgs
 ·exact Array.getElem?_setIfInBounds_self_of_lt hl.2.2.2
end WC
end Go.Proofs.YtiopfihjmkfdmaaGreatDoor
