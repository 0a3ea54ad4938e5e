import Derived.Test.YtiopfihjmkfdmaaGreatDoorB14
import Derived.Laws.MakeOwn
import Derived.MapKept
namespace Go.Proofs.YtiopfihjmkfdmaaGreatDoor
open Go.Proofs.Tryz Sp
open Go.RowKit
set_option maxRecDepth 100000
set_option maxHeartbeats 16000000
namespace WI
section
variable{w W W':Wd}
variable{xa va c d z:Array Value}
variable{l:List (Int × Int)}
variable{j b o B k n gf cl m:Nat}
variable{ops:Array Oper}
variable{rest:List Oper}
variable{op:Oper}
variable{a:Act}
variable{π:bO}
variable{s f t:ST}
variable{dv:Value}
variable{fs:List ST}
variable{p p':Int}
variable{T:gB}
variable{F:Fd}
abbrev Ag(r:Bool)(l:List (Int × Int)):Array Value:=Km (fun v:Int × Int=>.int .i64 v.1) (fun v:Int × Int=>.int .i64 v.2) r l
def wZ:List (Int × Int):=List.replicate 8 (0,0)
def Bu(s:ST):Bool × List (Int × Int):=match s with
 | none=>(false,wZ)
 | some e=>(true,List.ofFn fun k=>nL (e k))
def sI(s:ST):Array Value:=Ag (Bu s).1 (Bu s).2
theorem Jq(s:ST):(Bu s).2.length=8:=by cases s<;>simp[Bu,wZ]
theorem rm(s:ST):(sI s).size=17:=Cc _ _ (Jq s)
theorem Ha(s:ST):(sI s).all (·.oneCell')=true:=GK _ _ (fun _=>rfl) (fun _=>rfl) _ _
theorem Aw:(prog.info? 76).map (·.size)=some 17:=by kernel_rfl
theorem RQ:(prog.info? 218).map (·.size)=some 16:=by kernel_rfl
def Ub(e:Fin 8->Sp.Iv):Array Value:=(flat (fun v:Sp.Iv=>.int .i16 v.a) (fun v:Sp.Iv=>.int .i16 v.b) (List.ofFn e)).toArray
theorem Ox(e:Fin 8->Sp.Iv)(w:Wd):∀(j:Nat) (hj:j<8),(Instr.index 218 (.agg (Ub e)) (.int .i64 (j:Nat))).run prog w=.ok (.agg #[.int .i16 (e ⟨j,hj⟩).a,.int .i16 (e ⟨j,hj⟩).b]) w
 | 0,_=>by kernel_rfl
 | 1,_=>by kernel_rfl
 | 2,_=>by kernel_rfl
 | 3,_=>by kernel_rfl
 | 4,_=>by kernel_rfl
 | 5,_=>by kernel_rfl
 | 6,_=>by kernel_rfl
 | 7,_=>by kernel_rfl
structure AB(w:Wd)(xa:Array Value)(l:List (Int × Int))(W:Wd):Prop where
 s:W.heap[w.heap.size]?=some (.cells xa 220)
 z:W.heap[w.heap.size+1]?=some (.cells (Ag false wZ) 76)
 x:W.heap[w.heap.size+1+1]?=some (.cells (Ag true l) 76)
 b:Below w.heap.size w W
theorem AB.call(h:AB w xa l W)(k:Below W.heap.size W W'):AB w xa l W' :=
 ⟨(k.block _ (ah h.s)).trans h.s,(k.block _ (ah h.z)).trans h.z,(k.block _ (ah h.x)).trans h.x,h.b.trans (k.mono h.b.size)⟩
theorem AB.set(h:AB w xa l W)(hj:j<l.length)(v:Int × Int):AB w xa (l.set j v) ((W.setCell ⟨w.heap.size+1+1,1+j*2,none⟩ (.int .i64 v.1)).setCell ⟨w.heap.size+1+1,1+j*2+1,none⟩ (.int .i64 v.2)):=by
 have e1:w.heap.size≠w.heap.size+1+1:=by omega
 have e2:w.heap.size+1≠w.heap.size+1+1:=by omega
 refine⟨?_,?_,?_,(h.b.setCell (p:=⟨w.heap.size+1+1,1+j*2,none⟩) (by show w.heap.size<=w.heap.size+1+1;omega) _).setCell (p:=⟨w.heap.size+1+1,1+j*2+1,none⟩) (by show w.heap.size<=w.heap.size+1+1;omega) _⟩
 ·rw[Below.heap_setCell _ _ _ _ e1,Below.heap_setCell _ _ _ _ e1];exact h.s
 ·rw[Below.heap_setCell _ _ _ _ e2,Below.heap_setCell _ _ _ _ e2];exact h.z
 ·rw[ai (ai h.x (1+j*2) (.int .i64 v.1)) (1+j*2+1) (.int .i64 v.2)]
  congr 2;exact GP (fun v:Int × Int=>.int .i64 v.1) (fun v:Int × Int=>.int .i64 v.2) v hj
def jr(e:Fin 8->Sp.Iv)(j:Nat):List (Int × Int):=(List.ofFn fun k=>nL (e k)).take j ++ List.replicate (8 - j) (0,0)
theorem y9(e:Fin 8->Sp.Iv)(h:j<=8):(jr e j).length=8:=by unfold jr;simp;omega
theorem J3(e:Fin 8->Sp.Iv)(h:j<8):(jr e j).set j (nL (e ⟨j,h⟩))=jr e (j+1):=by
 have hl:((List.ofFn fun k=>nL (e k)).take j).length=j:=by simp;omega
 have hg:(List.ofFn fun k=>nL (e k))[j]?=some (nL (e ⟨j,h⟩)):=by rw[List.getElem?_ofFn,dif_pos h]
 have hk:=List.getElem?_eq_some_iff.1 hg;unfold jr;rw[List.set_append_right _ _ (by omega),hl,Nat.sub_self,show 8 - j=(8 - (j+1))+1 by omega,List.replicate_succ,List.set_cons_zero,List.take_succ_eq_append_getElem hk.1,hk.2,List.append_assoc];rfl
theorem I0(e:Fin 8->Sp.Iv):jr e 8=List.ofFn fun k=>nL (e k):=by unfold jr;rw[List.take_of_length_le (by simp)];simp
theorem Lw{e:Fin 8->Sp.Iv}(h:Bk w b (aK (some e)) 220):w.rangeAt b 1 (Ub e).toList:=fun j v hv=>by refine cell_of h _ ?_;have:(aK (some e)).toList=.bool true :: (Ub e).toList:=rfl;rw[<-Array.getElem?_toList,this,Nat.add_comm 1 j,List.getElem?_cons_succ];exact hv
theorem RA{Q:Exit->Act->Wd->Prop}(qI:op.guard=none)(x:Operand)(ho:op.op=.load 218 x)(hx:a.eval x=.pointer (some ⟨b,1,none⟩))(h:w.rangeAt b 1 va.toList)(hc:va.size=16)
  (k:wpList prog ops Q rest (a.put op.dst (.agg va)) w):wpList prog ops Q (op :: rest) a w:=by
 refine wpList_load_mid qI 218 x ho b 1 hx va.toList _ h underlying218 rfl (by rw[RQ];simp[hc]) ?_;simpa using k
theorem Rv{Q:Exit->Act->Wd->Prop}(qI:op.guard=none)(x:Operand)(ho:op.op=.load 76 x)(hx:a.eval x=.pointer (some ⟨b,0,none⟩))(h:Bk w b c 76)(hc:c.size=17)
  (k:wpList prog ops Q rest (a.put op.dst (.agg c)) w):wpList prog ops Q (op :: rest) a w:=by
 refine wpList_load_mid qI 76 x ho b 0 hx c.toList _ (aT h) underlying76 rfl (by rw[Aw];simp[hc]) ?_;simpa using k
theorem Mk{Q:Exit->Act->Wd->Prop}(qI:op.guard=none)(x y:Operand)(ho:op.op=.store 76 x y)(hx:a.eval x=.pointer (some ⟨b,o,none⟩))(hy:a.eval y=.agg d)(h:w.there b o 17)(hd:d.size=17)(h1:d.all (·.oneCell')=true)
  (k:wpList prog ops Q rest (a.put op.dst undef) (w.setCells b o d.toList)):wpList prog ops Q (op :: rest) a w :=
 wpList_plain qI fun _ hK=>wp_store_mid 76 x y ho b o d hx hy (by rw[hd];exact h) (by rw[Aw,hd]) h1 (hK _ _ k)
theorem Nb{fr:Nat × Nat}(h:w.heap[b]?=some (.cells c 76 fr))(hc:c.size=17) :
  (loadVar 76 ⟨b,0,none⟩).run prog w=.ok (.agg c) w:=by
 have:=run_loadVar_mid (P:=prog) w b 0 76 c.toList _ (fun j v hv=>by rw[Nat.zero_add];exact cell_of h j (by simpa using hv)) underlying76 rfl (by rw[Aw];simp[hc]);simpa using this
theorem Fe{fn:Func}{a:Tmp}(F1:fn.results=#[.cell a 76])(tmps:Array Value)(w:Wd)(ht:tmps.getD a undef=.pointer (some ⟨b,0,none⟩))(h:Bk w b c 76)(hc:c.size=17) :
  (results fn tmps).run prog w=.ok (.agg c) w:=by
 have hl:=Nb h hc;have Qp:tmps[a]?.getD undef=.pointer (some ⟨b,0,none⟩):=by rw[<-ht];simp
 unfold results;rw[F1];simp[asAddr,Qp,hl]
theorem EZ(dv:Value)(e:Fin 8->Sp.Iv)(w:Wd)(hd:fG B π dv w)(he:∀k,Wv (e k)) :
  Calls prog 117 #[.iface 133 dv,.agg (aK (some e))] w fun r w'=>r=.returned (.agg (sI (some e)))/\Below w.heap.size w w':=by
 have HTL:Hid (∀W j (hj:j<8),Below w.heap.size w W->Calls _ _ _ W _):=fun W j hj hb=>Vk (B:=B) (π:=π) (dv:=dv) (hd.below (hb.mono hd.size)) (he ⟨j,hj⟩)
 have Xx:Hid (∀j (hj:j<8) w,_):=fun j hj w=>Ox e w j hj
 have v16:(Ub e).size=16:=by unfold Ub;rw[List.size_toArray,BN];simp
 have hrv:=fun(W:Wd) b=>Lw (w:=W) (b:=b) (e:=e)
 have HRV:=hid hrv;have fu:=aF (some e);generalize aK (some e)=xa at *;generalize Ub e=va at *;have H0:Hid (AB w xa (jr e 0) (((w.alloc (.cells xa 220)).alloc (.cells (Ag false wZ) 76)).alloc (.cells (Ag true (jr e 0)) 76))):=by obtain⟨k0,k1,k2,kb⟩:=bY (w:=w) (o1:=.cells xa 220) (o2:=.cells (Ag false wZ) 76) (o3:=.cells (Ag true (jr e 0)) 76) (Below.refl _ _);exact⟨k0,k1,k2,kb⟩
 have Uk:=HRV.out _ _ H0.s;have HR:=hid Uk;clear Uk hrv hd;go_enter func117,ntmps117;go_wp2_with (first
  | (refine RA rfl _ rfl rfl (by exact HR.out) v16 ?_))
 change Code.wp _ _ _ _ (((w.alloc (.cells xa 220)).alloc (.cells (Ag false wZ) 76)).alloc (.cells (Ag true (jr e 0)) 76));generalize ((w.alloc (.cells xa 220)).alloc (.cells (Ag false wZ) 76)).alloc (.cells (Ag true (jr e 0)) 76)=W0 at *
 go_loopw [11] (fun v11 wr=>∃j:Nat,j<=8/\v11=.int .i64 j/\Hid (AB w xa (jr e j) wr)) (fun v11 _=>8 - (intOf v11).toNat)
 case atStart=>exact⟨0,Nat.zero_le _,rfl,H0.out⟩
 case round =>
  obtain⟨j,hj,rfl,hq⟩:=hrel;clear H0 HR;by_cases dW:j<8
  ·have hix:=Xx.out j dW
   have uq:(j:Int)<8:=by omega
   have hme:∀w,(method 587 133 dv "Tell").run prog w=.ok (325,dv) w:=fun w=>by kernel_rfl
   have kb:=below_alloc1 wr (.cells #[.int .i16 (e ⟨j,dW⟩).a,.int .i16 (e ⟨j,dW⟩).b] 131);have h1:=hq.call kb;have HC:=HTL.out _ j dW h1.b;have H1:Hid (AB w xa (jr e j) _):=h1;clear kb h1;go_wp2_with fail;refine HC.mono ?_;rintro r w1⟨rfl,b1⟩;have h2:=H1.call b1;obtain⟨x,hxj⟩:∃x,(jr e j)[j]?=some x:=⟨_,List.getElem?_eq_getElem (by rw[y9 _ hj];omega)⟩;have y0:=cell_of h2.x _ (zv (fun v:Int × Int=>.int .i64 v.1) (fun v:Int × Int=>.int .i64 v.2) hxj).1;have y1:=cell_of h2.x _ (zv (fun v:Int × Int=>.int .i64 v.1) (fun v:Int × Int=>.int .i64 v.2) hxj).2;have f0:=aw h2.x (1+j*2);have f1:=aw h2.x (1+j*2+1);have A3:Hid (AB w xa (jr e (j+1)) ((w1.setCell ⟨w.heap.size+1+1,1+j*2,none⟩ (.int .i64 (nL (e ⟨j,dW⟩)).1)).setCell ⟨w.heap.size+1+1,1+j*2+1,none⟩ (.int .i64 (nL (e ⟨j,dW⟩)).2))):=by unfold Hid;rw[<-J3 e dW];exact h2.set (by rw[y9 _ hj];omega) _
   clear hxj h2 b1 HC H1 hix;go_wp2_with fail;exact⟨⟨j+1,by omega,by go_num,A3⟩,by simp[intOf];omega⟩
  ·obtain rfl:j=8:=by omega
   have hx:=hq.x;have f17:=rm (some e);have ZY:=Ha (some e);have e8:Ag true (jr e 8)=sI (some e):=by rw[I0];rfl
   rw[e8]at hx;generalize Qi:sI (some e)=fa at *;have HFA:=hid Qi;have HX:Hid (_=_):=hx;have hr:Hid (_=_):=ar hq.z (d:=fa) (by rw[f17];rfl);have HB:Hid (Below w.heap.size w _):=au (b:=w.heap.size+1) (by omega) fa.toList 0 w _ hq.b;have Vw:=hid (bI hq.z);clear Qi hx e8 hj dW;go_wp2_with (first
    | (refine Rv rfl _ rfl rfl HX.out f17 ?_)
    | (refine Mk rfl _ _ rfl rfl rfl Vw.out f17 ZY ?_))
   refine bodyPost_ret (Fe results117 _ _ rfl hr.out f17) rfl ⟨by rw[HFA.out],HB.out⟩
theorem ni{α:Type}{f:α->List Value}{a:α}(hz:f a=z.toList)(hk:∀a,(f a).length=k)(hk0:0<k):madeCells z (n*k)=((List.replicate n a).flatMap f).toArray:=by
 have hs:z.size=k:=by rw[<-Array.length_toList,<-hz,hk]
 refine Array.ext_getElem? fun i=>?_
 have er:((List.replicate n a).flatMap f).toArray[i]?=((List.replicate n a).flatMap f)[i]?:=List.getElem?_toArray;rw[er];by_cases hi:i<n*k
 ·have e:i=i / k*k+i % k:=by rw[Nat.mul_comm];exact(Nat.div_add_mod i k).symm
  have h1:i / k<n:=Nat.div_lt_of_lt_mul (by rw[Nat.mul_comm];exact hi);have h2:i % k<k:=Nat.mod_lt _ hk0;have h3:=gX hk (List.replicate n a) (i / k) a (i % k) (by rw[List.getElem?_replicate,if_pos h1]) h2;rw[<-e]at h3;rw[h3,hz];unfold madeCells;rw[Array.getElem?_map,Array.getElem?_range,if_pos hi];simp only[Option.map_some];rw[hs,Array.getElem?_toList,getElem!_pos z (i % k) (by omega),Array.getElem?_eq_getElem (by omega)]
 ·rw[Array.getElem?_eq_none (by rw[size_madeCells];omega),List.getElem?_eq_none (by rw[fw hk,List.length_replicate];omega)]
def fh(fs:List ST):List Value:=fs.flatMap fun s=>(sI s).toList
theorem jw(s:ST):(sI s).toList.length=17:=by rw[Array.length_toList];exact rm s
theorem SD:(prog.info? 76).map (fun i=>(i.zero,i.size,i.bytes))=some (some (.agg (sI none)),17,136):=by kernel_rfl
theorem Fg(n:Nat)(hn:n<=1000000)(w:Wd):(Instr.makeSlice 62 (.int .i64 (n:Nat)) (.int .i64 (n:Nat))).run prog w=.ok (.slice (some ⟨w.heap.size,0,none⟩) n n) (w.alloc (.cells (fh (List.replicate n none)).toArray 76)):=by obtain⟨i,hi,hz⟩:=Option.map_eq_some_iff.1 SD;simp only[Prod.mk.injEq]at hz;obtain⟨h1,h2,h3⟩:=hz;have:=run_make (P:=prog) w 62 76 i _ underlying62 hi h1 .i64 .i64 n n (by omega) (Int.le_refl _) (by rw[h3];omega) (by omega);rw[this,h2];simp only[Int.toNat_natCast];congr 4;exact ni (f:=fun s=>(sI s).toList) (a:=none) (z:=sI none) rfl jw (by omega)
def mN(fs:List ST)(j:Nat):List ST:=fs.take j ++ List.replicate (fs.length - j) none
theorem KI(fs:List ST)(h:j<=fs.length):(mN fs j).length=fs.length:=by unfold mN;simp;omega
theorem Na(fs:List ST)(h:j<fs.length)(hs:fs[j]?=some s):(mN fs j).set j s=mN fs (j+1):=by
 have hl:(fs.take j).length=j:=by simp;omega
 have hk:=List.getElem?_eq_some_iff.1 hs;unfold mN;rw[List.set_append_right _ _ (by omega),hl,Nat.sub_self,show fs.length - j=(fs.length - (j+1))+1 by omega,List.replicate_succ,List.set_cons_zero,List.take_succ_eq_append_getElem hk.1,hk.2,List.append_assoc];rfl
theorem Is(fs:List ST)(h:j<fs.length)(hs:fs[j]?=some none):mN fs (j+1)=mN fs j:=by
 have hl:(fs.take j).length=j:=by simp;omega
 have hk:=List.getElem?_eq_some_iff.1 hs;unfold mN;rw[show fs.length - j=(fs.length - (j+1))+1 by omega,List.replicate_succ,List.take_succ_eq_append_getElem hk.1,hk.2,List.append_assoc];rfl
theorem Mj(fs:List ST):mN fs fs.length=fs:=by unfold mN;simp
structure tY(B:Nat)(π:bO)(dv:Value)(gf:Nat)(w:Wd)(fs l:List ST)(W:Wd):Prop where
 d:fG B π dv W
 g:W.heap[gf]?=some (.cells (cP fs).toArray 220)
 x:W.heap[w.heap.size]?=some (.cells (fh l).toArray 76)
 b:Below w.heap.size w W
theorem tY.call{l:List ST}(h:tY B π dv gf w fs l W)(k:Below W.heap.size W W'):tY B π dv gf w fs l W' :=
 ⟨h.d.below (k.mono h.d.size),(k.block _ (ah h.g)).trans h.g,(k.block _ (ah h.x)).trans h.x,h.b.trans (k.mono h.b.size)⟩
theorem tY.set{l:List ST}(h:tY B π dv gf w fs l W)(hB:B<=w.heap.size)(hg:gf<w.heap.size)(hj:j<l.length)(s:ST):tY B π dv gf w fs (l.set j s) (W.setCells w.heap.size (j*17) (sI s).toList):=by
 have hb:Below w.heap.size w (W.setCells w.heap.size (j*17) (sI s).toList):=au (b:=w.heap.size) (Nat.le_refl _) _ _ _ _ h.b;have DS:Below w.heap.size W (W.setCells w.heap.size (j*17) (sI s).toList):=au (b:=w.heap.size) (Nat.le_refl _) _ _ _ _ (Below.refl _ _);refine⟨h.d.below (DS.mono hB),(al _ _ _ _ (by omega)).trans h.g,?_,hb⟩;obtain⟨c',h1,h2,h3,h4⟩:=ga (sI s).toList (j*17) W (fh l).toArray h.x (by rw[jw,List.size_toArray];unfold fh;rw[fw jw];have:(j+1)*17<=l.length*17:=Nat.mul_le_mul_right _ hj;omega)
 rw[h1];congr 2;refine Array.ext_getElem? fun i=>?_
 have e2:(fh (l.set j s)).toArray[i]?=((l.set j s).flatMap fun s=>(sI s).toList)[i]?:=List.getElem?_toArray;rw[e2,pq jw l j s i hj];by_cases hi:j*17<=i/\i<j*17+17
 ·rw[if_pos hi]
  have:=h3 (i - j*17) (by rw[jw];omega);rw[show j*17+(i - j*17)=i by omega]at this;exact this
 ·rw[if_neg hi,h4 i (by rw[jw];omega),List.getElem?_toArray]
  rfl
theorem tY.there{l:List ST}(h:tY B π dv gf w fs l W)(hj:j<l.length):W.there w.heap.size (j*17) 17:=by
 intro i hi;refine⟨?_,aw h.x _⟩;have hl:j*17+i<(fh l).toArray.size:=by rw[List.size_toArray];unfold fh;rw[fw jw];have:(j+1)*17<=l.length*17:=Nat.mul_le_mul_right _ hj;omega
 rw[cell_of h.x _ (Array.getElem?_eq_getElem hl)];rfl
theorem BF(h:w.heap[gf]?=some (.cells (cP fs).toArray 220)){p:Nat}(hp:fs[p]?=some f):w.rangeAt gf (p*17) (aK f).toList:=by
 intro j v hv;have hj:j<17:=by have:=(List.getElem?_eq_some_iff.1 hv).1;rw[dz]at this;exact this
 refine cell_of h _ ?_;rw[List.getElem?_toArray];show(fs.flatMap fun s=>(aK s).toList)[p*17+j]?=some v;rw[gX dz fs p f j hp hj];exact hv
theorem Mz{Q:Exit->Act->Wd->Prop}(qI:op.guard=none)(x:Operand)(ho:op.op=.load 220 x)(hx:a.eval x=.pointer (some ⟨b,o,none⟩))(h:w.rangeAt b o c.toList)(hc:c.size=17)
  (k:wpList prog ops Q rest (a.put op.dst (.agg c)) w):wpList prog ops Q (op :: rest) a w:=by
 refine wpList_load_mid qI 220 x ho b o hx c.toList _ h underlying220 rfl (by rw[bP];simp[hc]) ?_;simpa using k
theorem Lv(w:Wd)(u:Array Value)(h:u.size=17) :
  (w.alloc (.cells zS 220)).heap[w.heap.size]?=some (.cells zS 220) /\
  ((w.alloc (.cells zS 220)).setCells w.heap.size 0 u.toList).heap[w.heap.size]?=some (.cells u 220) /\
  Below w.heap.size w ((w.alloc (.cells zS 220)).setCells w.heap.size 0 u.toList):=by
 have a1:=heap_alloc_new w (.cells zS 220);exact⟨a1,ar a1 (by rw[h];rfl),au (Nat.le_refl _) _ _ _ _ (below_alloc1 w _)⟩
theorem BL(dv:Value)(gf cf:Nat)(fs:List ST)(w:Wd)(hd:fG B π dv w)(hg:w.heap[gf]?=some (.cells (cP fs).toArray 220))(hw:∀s∈fs,Sp.Wf (Kr π) s)(hn:fs.length<=1000000) :
  Calls prog 85 #[.iface 133 dv,.slice (some ⟨gf,0,none⟩) fs.length cf] w fun r w'=>r=.returned (.slice (some ⟨w.heap.size,0,none⟩) fs.length fs.length)/\w'.heap[w.heap.size]?=some (.cells (fh fs).toArray 76)/\Below w.heap.size w w':=by
 have Ku:=Fg fs.length hn;have XU:Hid (∀W (e:Fin 8->Sp.Iv),fG B π dv W->(∀k,Wv (e k))->Calls _ _ _ W _):=fun W e hW he=>EZ (π:=π) dv e W hW he
 have NR:=ah hg;have hB:=hd.size;have H0:Hid (tY B π dv gf w fs (mN fs 0) (w.alloc (.cells (fh (List.replicate fs.length none)).toArray 76))):=by have kb:=below_alloc1 w (.cells (fh (List.replicate fs.length none)).toArray 76);exact⟨hd.below (kb.mono hB),(kb.block _ NR).trans hg,heap_alloc_new _ _,kb⟩
 have HW:=hid hw;have Tf:(fs.length:Int)<=1000000:=by omega
 clear hd hg hw;go_enter func85,ntmps85;go_wp2_with fail;generalize w.alloc (.cells (fh (List.replicate fs.length none)).toArray 76)=W0 at *;clear Ku
 go_loopw [13] (fun Ta wr=>∃j:Nat,j<=fs.length/\Ta=.int .i64 j/\Hid (tY B π dv gf w fs (mN fs j) wr)) (fun Ta _=>fs.length - (intOf Ta).toNat)
 case atStart=>exact⟨0,Nat.zero_le _,rfl,H0.out⟩
 case round =>
  obtain⟨j,hj,rfl,hq⟩:=hrel;clear H0;by_cases dW:j<fs.length
  ·obtain⟨f,hf⟩:∃f,fs[j]?=some f:=⟨_,List.getElem?_eq_getElem dW⟩
   have uq:((j:Nat):Int)<((fs.length:Nat):Int):=by omega
   have X5:=hid (BF hq.g hf);have Tu:=HW.out f (List.mem_of_getElem? hf);obtain⟨xa,oe⟩:∃xa,xa=aK f:=⟨_,rfl⟩;rw[<-oe]at X5;have fu:xa.size=17:=by rw[oe];exact aF f
   have x1:xa.all (·.oneCell')=true:=by rw[oe];exact aX f
   have FY:xa[0]?=some (.bool f.isSome):=by rw[oe];cases f<;>rfl
   obtain⟨t1,t2,tb⟩:=Lv wr xa fu;have T1:=hid t1;have T2:=hid t2;have H2:Hid (tY B π dv gf w fs (mN fs j) _):=hq.call tb;have c0:=cell_of t2 0 FY;have N6:=hid oe;have hjm:j*17<9223372036854775807:=by omega
   clear t1 t2 tb oe;cases f with
   | none =>
    have hm:Hid (mN fs (j+1)=mN fs j):=Is fs dW hf;go_wp2_with (first
     | (refine Mz rfl _ rfl rfl X5.out fu ?_)
     | (refine bV rfl _ _ rfl rfl rfl (by exact T1.out) rfl fu x1 ?_))
    exact⟨⟨j+1,by omega,by go_num,by rw[hm.out];exact H2⟩,by simp[intOf];omega⟩
   | some e =>
    have hm:Hid ((mN fs j).set j (some e)=mN fs (j+1)):=Na fs dW hf;have hC:=XU.out _ e H2.d (Tu e rfl);rw[<-N6.out]at hC;have HC:=hid hC;have f17:=rm (some e);have ZY:=Ha (some e);generalize Qi:sI (some e)=fa at *;have HFA:=hid Qi;clear hC Qi;go_wp2_with (first
     | (refine Mz rfl _ rfl rfl X5.out fu ?_)
     | (refine bV rfl _ _ rfl rfl rfl (by exact T1.out) rfl fu x1 ?_)
     | (refine bt rfl _ rfl rfl (by exact T2.out) fu ?_))
    refine HC.mono ?_;rintro r w1⟨rfl,b1⟩;have h3:=H2.call b1;have hlm:j<(mN fs j).length:=by rw[KI fs hj];exact dW
    have Vw:=hid (h3.there hlm);have H4:Hid (tY B π dv gf w fs (mN fs (j+1)) (w1.setCells w.heap.size (j*17) fa.toList)):=by unfold Hid;rw[<-hm.out,<-HFA.out];exact h3.set hB NR hlm (some e)
    clear h3 b1 HC H2 T1 T2 c0 X5;go_wp2_with (first
     | (refine Mk rfl _ _ rfl rfl rfl Vw.out f17 ZY ?_))
    exact⟨⟨j+1,by omega,by go_num,H4⟩,by simp[intOf];omega⟩
  ·obtain rfl:j=fs.length:=by omega
   have hx:=hq.x;rw[Mj]at hx;have HX:Hid (_=_):=hx;have HB:=hid hq.b;clear hx;go_wp2_with fail;go_ret;exact⟨rfl,HX.out,HB.out⟩
def zL(x:Sp.Iv):List Lit:=[.int .i16 (vA x),.int .i16 (vB x)]
theorem CP(D:Nat)(n:Int)(h:(Lit.int .i16 n).wf=true):prog.keyLits (D+1) 48 [.int .i16 n]=some [.int .i16 n]:=by unfold Program.keyLits;rw[underlying48];exact if_pos ⟨rfl,h⟩
theorem Jv(D:Nat)(b:Bool):prog.keyLits (D+1) 4 [.bool b]=some [.bool b]:=by unfold Program.keyLits;rw[underlying4]
theorem KJ(D:Nat)(n:Int)(h:(Lit.int .i64 n).wf=true):prog.keyLits (D+1) 3 [.int .i64 n]=some [.int .i64 n]:=by unfold Program.keyLits;rw[underlying3];exact if_pos ⟨rfl,h⟩
theorem Iy:prog.cellsOf 48=1:=by kernel_rfl
theorem Ei:prog.cellsOf 4=1:=by kernel_rfl
theorem JH:prog.cellsOf 3=1:=by kernel_rfl
theorem yJ:prog.cellsOf 131=2:=by kernel_rfl
theorem yB:prog.cellsOf 218=16:=by kernel_rfl
theorem vU:prog.cellsOf 220=17:=by kernel_rfl
theorem CM:prog.cellsOf 365=18:=by kernel_rfl
theorem LR(D:Nat)(x:Sp.Iv)(h:vz x):prog.keyLits (D+1+1) 131 [.int .i16 x.a,.int .i16 x.b]=some (zL x):=by unfold Program.keyLits;rw[underlying131,yJ];refine(if_pos ⟨rfl,by kernel_rfl⟩).trans ?_;simp only[List.mapM_cons,List.mapM_nil,Iy,List.drop_zero,List.drop_succ_cons,List.take_succ_cons,List.take_zero,CP D _ h.1,CP D _ h.2];rfl
theorem L1(D:Nat)(e:Fin 8->Sp.Iv)(h:∀k,vz (e k)):prog.keyLits (D+1+1+1) 218 [.int .i16 (e 0).a,.int .i16 (e 0).b,.int .i16 (e 1).a,.int .i16 (e 1).b,.int .i16 (e 2).a,.int .i16 (e 2).b,.int .i16 (e 3).a,.int .i16 (e 3).b,.int .i16 (e 4).a,.int .i16 (e 4).b,.int .i16 (e 5).a,.int .i16 (e 5).b,.int .i16 (e 6).a,.int .i16 (e 6).b,.int .i16 (e 7).a,.int .i16 (e 7).b]=some (zL (e 0) ++ (zL (e 1) ++ (zL (e 2) ++ (zL (e 3) ++ (zL (e 4) ++ (zL (e 5) ++ (zL (e 6) ++ zL (e 7)))))))):=by unfold Program.keyLits;rw[underlying218,yB];refine(if_pos rfl).trans ?_;simp only[yJ,show List.range 8=[0,1,2,3,4,5,6,7] from rfl,List.mapM_cons,List.mapM_nil,Nat.reduceMul,List.drop_zero,List.drop_succ_cons,List.take_succ_cons,List.take_zero,LR D _ (h _)];rfl
def Au(e:Fin 8->Sp.Iv):List Value:=[.int .i16 (e 0).a,.int .i16 (e 0).b,.int .i16 (e 1).a,.int .i16 (e 1).b,.int .i16 (e 2).a,.int .i16 (e 2).b,.int .i16 (e 3).a,.int .i16 (e 3).b,.int .i16 (e 4).a,.int .i16 (e 4).b,.int .i16 (e 5).a,.int .i16 (e 5).b,.int .i16 (e 6).a,.int .i16 (e 6).b,.int .i16 (e 7).a,.int .i16 (e 7).b]
theorem Ah(s:ST):∃b e,(aK s).toList=.bool b :: Au e/\b=s.isSome/\((∃g,s=some g/\e=g)∨(s=none/\e=fun _=>⟨0,0⟩)):=by
 cases s with
 | none=>exact⟨false,fun _=>⟨0,0⟩,by rfl,rfl,.inr ⟨rfl,rfl⟩⟩
 | some e=>exact⟨true,e,by rfl,rfl,.inl ⟨e,rfl,rfl⟩⟩
theorem LY(hs:Sp.Wf (Kr π) s):∃b e,(aK s).toList=.bool b :: Au e/\∀k,vz (e k):=by
 obtain⟨b,e,h1,_,h⟩:=Ah s;refine⟨b,e,h1,?_⟩
 rcases h with⟨g,rfl,rfl⟩ | ⟨_,rfl⟩
 ·exact fun k=>Sc (hs _ rfl k)
 ·exact fun _=>Lf
theorem LU{e g:Fin 8->Sp.Iv}(h:Au e=Au g):e=g:=by
 unfold Au at h;simp only[List.cons.injEq,Value.int.injEq,true_and,and_true]at h;funext k
 match k with
 | 0=>exact tF h.1 h.2.1
 | 1=>exact tF h.2.2.1 h.2.2.2.1
 | 2=>exact tF h.2.2.2.2.1 h.2.2.2.2.2.1
 | 3=>exact tF h.2.2.2.2.2.2.1 h.2.2.2.2.2.2.2.1
 | 4=>exact tF h.2.2.2.2.2.2.2.2.1 h.2.2.2.2.2.2.2.2.2.1
 | 5=>exact tF h.2.2.2.2.2.2.2.2.2.2.1 h.2.2.2.2.2.2.2.2.2.2.2.1
 | 6=>exact tF h.2.2.2.2.2.2.2.2.2.2.2.2.1 h.2.2.2.2.2.2.2.2.2.2.2.2.2.1
 | 7=>exact tF h.2.2.2.2.2.2.2.2.2.2.2.2.2.2.1 h.2.2.2.2.2.2.2.2.2.2.2.2.2.2.2
theorem GB(h:aK s=aK t):s=t:=by
 obtain⟨b,e,h1,h2,h3⟩:=Ah s;obtain⟨b',e',nM,Hj,xx⟩:=Ah t;rw[h,nM]at h1;injection h1 with hb he
 have he:=LU he;injection hb with hb
 subst he
 rcases h3 with⟨g,rfl,rfl⟩ | ⟨rfl,rfl⟩<;>rcases xx with⟨g',rfl,rfl⟩ | ⟨rfl,h5⟩
 ·rfl
 ·rw[h2,Hj]at hb;cases hb
 ·rw[h2,Hj]at hb;cases hb
 ·rfl
theorem GD(D:Nat)(b:Bool)(e:Fin 8->Sp.Iv)(h:∀k,vz (e k)):∃L,prog.keyLits (D+1+1+1+1) 220 (.bool b :: Au e)=some L:=by
 unfold Program.keyLits;rw[underlying220,vU];refine⟨?_,(if_pos ⟨rfl,by kernel_rfl⟩).trans ?_⟩
 rotate_left
 ·unfold Au
  simp only[List.mapM_cons,List.mapM_nil,Ei,yB,List.drop_zero,List.drop_succ_cons,List.take_succ_cons,List.take_zero,Jv,L1 D e h];rfl
theorem OC(D:Nat)(p:Int)(hp:(Lit.int .i64 p).wf=true)(b:Bool)(e:Fin 8->Sp.Iv)(h:∀k,vz (e k)):∃L,prog.keyLits (D+1+1+1+1+1) 365 (.int .i64 p :: .bool b :: Au e)=some L:=by
 obtain⟨L,hL⟩:=GD D b e h;unfold Program.keyLits;rw[underlying365,CM];refine⟨?_,(if_pos ⟨rfl,by kernel_rfl⟩).trans ?_⟩
 rotate_left
 ·unfold Au at hL ⊢
  simp only[List.mapM_cons,List.mapM_nil,JH,vU,List.drop_zero,List.drop_succ_cons,List.take_succ_cons,List.take_zero,KJ _ p hp,hL];rfl
theorem vD:10<=prog.types.size:=by exact Nat.le_of_ble_eq_true (by kernel_rfl)
theorem Nd(hs:Sp.Wf (Kr π) s):∃l,keyOf prog 220 (.agg (aK s))=some l:=by
 obtain⟨b,e,h1,h2⟩:=LY hs;obtain⟨D,hD⟩:∃D,prog.types.size+1=D+1+1+1+1:=⟨prog.types.size - 3,by have:=vD;omega⟩;obtain⟨L,hL⟩:=GD D b e h2;unfold keyOf;rw[underlying220,hD];have hk:prog.keyType 220=true:=by kernel_rfl
 have hf:(Value.agg (aK s)).formed prog 220=true:=by simp only[Value.formed,underlying220,vU,aF];rfl
 refine⟨?_,(if_pos (by rw[hk,hf];rfl)).trans ?_⟩
 rotate_left
 ·show Option.map _ (prog.keyLits _ _ (aK s).toList)=_
  rw[h1,hL];rfl
theorem mb(p:Int)(s:ST):(mM p s).toList=.int .i64 p :: (aK s).toList:=by simp[mM]
theorem Ek(hs:Sp.Wf (Kr π) s)(hp:0<=p/\p<=1000000):∃l,keyOf prog 365 (.agg (mM p s))=some l:=by
 obtain⟨b,e,h1,h2⟩:=LY hs;obtain⟨D,hD⟩:∃D,prog.types.size+1=D+1+1+1+1+1:=⟨prog.types.size - 4,by have:=vD;omega⟩;have e1:IntKind.i64.min=-9223372036854775808:=rfl;have e2:IntKind.i64.max=9223372036854775807:=rfl;obtain⟨L,hL⟩:=OC D p (by simp only[Lit.wf,e1,e2,Bool.and_eq_true,decide_eq_true_eq];omega) b e h2;unfold keyOf;rw[underlying365,hD];have hk:prog.keyType 365=true:=by kernel_rfl
 have hz:(mM p s).size=18:=by rw[<-Array.length_toList,mb,List.length_cons,dz]
 have hf:(Value.agg (mM p s)).formed prog 365=true:=by simp only[Value.formed,underlying365,CM,hz];rfl
 refine⟨?_,(if_pos (by rw[hk,hf];rfl)).trans ?_⟩
 rotate_left
 ·show Option.map _ (prog.keyLits _ _ (mM p s).toList)=_
  rw[mb,h1,hL];rfl
theorem SV:WideMaps.KeyLaw prog 220:=deep_law (m:=8) (by omega) (by kernel_rfl) (by kernel_rfl) (by rw[underlying220])
theorem qn:WideMaps.KeyLaw prog 365:=deep_law (m:=8) (by omega) (by kernel_rfl) (by kernel_rfl) (by rw[underlying365])
theorem QI(hs:Sp.Wf (Kr π) s)(ht:Sp.Wf (Kr π) t)(w:Wd):(Op.equal 220 (.agg (aK s)) (.agg (aK t))).run prog w=.ok (D3 (Dm π) s t) w:=by
 obtain⟨l,hl⟩:=Nd hs;obtain⟨l',Hx⟩:=Nd ht;obtain⟨r,hr,ZG⟩:=run_equal_deep w (m:=8) (by omega) (by kernel_rfl) (by rw[underlying220]) hl Hx;rw[hr];congr 1;have h2:r=true↔s=t:=by
  rw[ZG];constructor
  ·intro e
   subst e;have:=SV.inj hl Hx;injection this with this
   exact GB this
  ·intro e
   subst e;rw[hl]at Hx;injection Hx
 have h3:=nk (Dm π) s t;cases hc:D3 (Dm π) s t with
 | true=>exact h2.2 (h3.1 hc)
 | false =>
  cases r with
  | false=>rfl
  | true=>rw[h3.2 (h2.1 rfl)]at hc;cases hc
theorem Py(s:ST):(prog.info? 220).map (·.size)=some (aK s).toList.length:=by rw[bP,dz]
structure AF(C:Cx)(F:Fd)(wa xa:Array Value)(k:Nat)(W:Wd):Prop where
 o:W.heap[k]?=some (.cells wa 217)
 x:W.heap[k+1]?=some (.cells xa 220)
 f:W.heap[C.fb]?=some (.cells #[.slice (some ⟨C.gf,0,none⟩) F.1.length C.cf,.slice (some ⟨C.gs,0,none⟩) F.2.length C.cs] 215)
theorem aM.R5{C:Cx}(h:aM C π T F w){p:Nat}{u:ST}(hp:F.1[p]?=some f)(hu:Sp.jn (Dm π) f s=u)(hs:Sp.Wf (Kr π) s) :
  aM C π T (Sp.tell (Dm π) F (py (Dm π) (p:Int) s)) (w.setCells C.gf (p*17) (aK u).toList)/\ay C w (w.setCells C.gf (p*17) (aK u).toList):=by
 cases s with
 | some e=>exact h.aA hp hu (hs e rfl)
 | none =>
  have A6:u=f:=by rw[<-hu];cases f<;>rfl
  subst A6;obtain⟨n1,n2,n3,n4,n5,n6⟩:=h.ne;obtain⟨es,cl,hm,hE⟩:=h.memo;have hk:ay C w (w.setCells C.gf (p*17) (aK u).toList) :=
   ⟨au h.bgf _ _ _ _ (Below.refl _ _),fun k _ k1 _ _=>al _ _ _ _ k1⟩
  refine⟨⟨(al _ _ _ _ n1).trans h.Bm,?_,(al _ _ _ _ (Ne.symm n3)).trans h.uX,⟨es,cl,(al _ _ _ _ n4).trans hm,hE⟩,h.does.below hk.below,h.turns.below hk.below h.big,h.big,h.bfb,h.bgf,h.bgs,h.bm,h.wfF⟩,hk⟩;have Kc:p<F.1.length:=(List.getElem?_eq_some_iff.1 hp).1;obtain⟨c',h1,h2,h3,h4⟩:=ga (aK u).toList (p*17) w (cP F.1).toArray h.A9 (by rw[dz,List.size_toArray];unfold cP;rw[fw dz];have:(p+1)*17<=F.1.length*17:=Nat.mul_le_mul_right _ Kc;omega)
  rw[h1];have e:c'=(cP F.1).toArray:=by
   refine Array.ext_getElem? fun i=>?_
   by_cases hi:p*17<=i/\i<p*17+17
   ·have h5:=h3 (i - p*17) (by rw[dz];omega)
    rw[show p*17+(i - p*17)=i by omega]at h5;rw[h5,List.getElem?_toArray];have h6:(F.1.flatMap fun s=>(aK s).toList)[p*17+(i - p*17)]?=(aK u).toList[i - p*17]?:=gX dz F.1 p u (i - p*17) hp (by omega);rw[show p*17+(i - p*17)=i by omega]at h6;exact h6.symm
   ·rw[h4 i (by rw[dz];omega)]
  rw[e];rfl
theorem Fk(C:Cx)(π:bO)(T:gB)(F:Fd)(w:Wd)(h:aM C π T F w)(p:Nat)(f u:ST)(hp:F.1[p]?=some f)(s:ST)(hu:Sp.jn (Dm π) f s=u)(he:Sp.Wf (Kr π) s) :
  Calls prog 84 #[.agg (wk C true),.int .i64 (p:Nat),.agg (aK s)] w fun r w'=>r=.returned (.tuple #[])/\aM C π T (Sp.tell (Dm π) F (py (Dm π) (p:Int) s)) w'/\ay C w w':=by
 have Kc:p<F.1.length:=(List.getElem?_eq_some_iff.1 hp).1;have aaD:((p:Nat):Int)<((F.1.length:Nat):Int):=by omega
 have tR:(wk C true)[7]?=some (.pointer (some ⟨C.fb,0,none⟩)):=rfl;have eg:(wk C true).size=8:=rfl;have HJ:Hid (∀W,fG C.base π C.dv W->Calls _ _ _ W _):=fun W hd=>oO (B:=C.base) (π:=π) C.dv C.cU C.ao C.narrow C.aj C.th C.m (some ⟨C.fb,0,none⟩) f s u W hd hu (h.wfF f (List.mem_of_getElem? hp)) he
 have P3:xY C.dv C.cU C.ao C.narrow C.aj C.th C.m (some ⟨C.fb,0,none⟩)=wk C true:=rfl;rw[P3]at HJ;clear P3;generalize wk C true=wa at *;have eH:(aK s).size=17:=aF _;have aaw:Hid (_=_):=Py s;generalize oe:aK s=xa at *;have b0:Below w.heap.size w ((w.alloc (.cells wa 217)).alloc (.cells xa 220)).drew:=((below_alloc1 w _).alloc (by simp) _).drew;have HA:Hid (aM C π T F ((w.alloc (.cells wa 217)).alloc (.cells xa 220)).drew):=h.call b0;have HK:Hid (ay C w ((w.alloc (.cells wa 217)).alloc (.cells xa 220)).drew):=ay.aB b0 h.le;have H0:Hid (AF C F wa xa w.heap.size ((w.alloc (.cells wa 217)).alloc (.cells xa 220)).drew):=⟨heap_alloc_old (heap_alloc_new w _),by rw[show w.heap.size+1=(w.alloc (.cells wa 217)).heap.size by simp];exact heap_alloc_new _ _,HA.Bm⟩;have d7:=cell_of H0.o 7 tR;have d7':((w.alloc (.cells wa 217)).alloc (.cells xa 220)).cell? ⟨w.heap.size,7,none⟩=some (.pointer (some ⟨C.fb,0,none⟩)):=d7;have HN:=hid h;have HP:=hid hp;have HU:=hid hu;have dj:=h.lt;have db:=h.ne;clear h hp hu b0 d7;obtain⟨o,ho⟩:∃o,p*17=o:=⟨_,rfl⟩;have HR:Hid (∀W,aM C π T F W->W.rangeAt C.gf o (aK f).toList/\W.there C.gf o 17/\(aM C π T (Sp.tell (Dm π) F (py (Dm π) (p:Int) s)) (W.setCells C.gf o (aK u).toList)/\ay C W (W.setCells C.gf o (aK u).toList))):=fun W hW=>by rw[<-ho];exact⟨hW.fact HP.out,hW.JM Kc,hW.R5 HP.out HU.out he⟩
 go_enter func84,ntmps84;go_wp2_with fail;generalize (w.alloc (.cells wa 217)).alloc (.cells xa 220)=W at *;refine wp_region_held_drew (S:=fun w':Wd=>AF C F wa xa w.heap.size w') (by kernel_rfl) H0.out (fun aa=>?_);refine mj 15 rfl (yieldsIf_load_mid (by rfl) _ _ rfl _ _ rfl (xa).toList _ (fun w' h=>aT h.x) underlying220 rfl (by rw[bP,Array.length_toList,eH])) aa ?_;refine mj 6 rfl (yieldsIf_load_mid (by rfl) _ _ rfl _ _ rfl (wa).toList _ (fun w' h=>aT h.o) underlying217 rfl (by rw[fD,Array.length_toList,eg])) aa ?_;refine tq 0 (.pointer (some ⟨w.heap.size,7,none⟩)) aa ?_;refine tk 1 (.pointer (some ⟨C.fb,0,none⟩)) rfl (fun w' h=>by have d:=cell_of h.o 7 tR;go_simp) aa ?_;refine tq 2 (.pointer (some ⟨C.fb,0,none⟩)) aa ?_;refine tq 3 (.pointer (some ⟨C.fb,0,none⟩)) aa ?_;refine tk 4 (.slice (some ⟨C.gf,0,none⟩) F.1.length C.cf) rfl (fun w' h=>by have d:=cell_of h.f 0 rfl;go_simp) aa ?_;refine tq 5 (.int .i64 (p:Nat)) aa ?_;refine tq 7 (.pointer (some ⟨w.heap.size,7,none⟩)) aa ?_;refine tk 8 (.pointer (some ⟨C.fb,0,none⟩)) rfl (fun w' h=>by have d:=cell_of h.o 7 tR;go_simp) aa ?_;refine tq 9 (.pointer (some ⟨C.fb,0,none⟩)) aa ?_;refine tq 10 (.pointer (some ⟨C.fb,0,none⟩)) aa ?_;refine tk 11 (.slice (some ⟨C.gf,0,none⟩) F.1.length C.cf) rfl (fun w' h=>by have d:=cell_of h.f 0 rfl;go_simp) aa ?_;refine tq 12 (.int .i64 (p:Nat)) aa ?_;refine tq 13 (.pointer (some ⟨C.gf,o,none⟩)) aa ?_;refine cH 14 fun K hK=>?_
 simp only[bT,gN,Array.toArray_toList];rw[if_pos (by rfl)];refine vG _ rfl rfl (HR.out _ HA.out).1 (aF f) ?_;simp only[Act.put];refine hK.out _ _ aa (fun aa=>?_);clear hK K;refine cH 16 fun K hK=>?_
 simp only[bT,gN];go_simp;refine(HJ.out _ HA.does).mono ?_;rintro r w1⟨rfl,b1⟩;go_wp2_with fail;have nN:Hid (aM C π T F w1):=HA.call b1;have mx:Hid (ay C w w1):=HK.more b1 HN.le;have iv:AF C F wa xa w.heap.size w1:=⟨(b1.block _ (ah aa.o)).trans aa.o,(b1.block _ (ah aa.x)).trans aa.x,(b1.block _ (ah aa.f)).trans aa.f⟩;refine hK.out _ _ iv (fun aa=>?_);clear hK K iv b1;refine tq 17 (.pointer (some ⟨C.gf,o,none⟩)) aa ?_;refine cH 18 fun K hK=>?_
 simp only[bT,gN];rw[if_pos (by rfl)];refine kG _ _ rfl rfl rfl (HR.out _ nN.out).2.1 (aF u) (aX u) ?_;refine hK.out _ _ ⟨(al _ _ _ _ (by omega)).trans aa.o,(al _ _ _ _ (by omega)).trans aa.x,(al _ _ _ _ db.1).trans aa.f⟩ (fun _=>?_);clear hK K;refine wpAnyH_done (by kernel_rfl) ?_ _;have R:Hid (_/\_):=(HR.out _ nN.out).2.2;go_wp2_with fail;go_returns;exact⟨rfl,R.1,mx.trans R.2⟩
theorem BA(C:Cx)(p:Int)(s:ST)(w:Wd) :
  Calls prog 84 #[.agg (wk C false),.int .i64 p,.agg (aK s)] w fun e w'=>e=.returned (.tuple #[])/\Below w.heap.size w w':=by
 have tR:(wk C false)[7]?=some (.pointer none):=rfl;generalize wk C false=wa at *;generalize aK s=xa at *;have hb:((w.alloc (.cells wa 217)).alloc (.cells xa 220)).heap[w.heap.size]?=some (.cells wa 217):=heap_alloc_old (heap_alloc_new w _);have d7:=cell_of hb 7 tR;clear hb;go_enter func84,ntmps84;go_wp2_with fail;go_returns;exact⟨rfl,by go_grown⟩
theorem mD(C:Cx)(π:bO)(T:gB)(F:Fd)(b:Bool)(w:Wd)(h:aM C π T F w)(p:Int)(s:ST)(hs:Sp.Wf (Kr π) s)(hr:b=true->0<=p/\p.toNat<F.1.length) :
  Calls prog 84 #[.agg (wk C b),.int .i64 p,.agg (aK s)] w fun r w'=>r=.returned (.tuple #[])/\aM C π T (told π b F (py (Dm π) p s)) w'/\ay C w w':=by
 cases b with
 | false =>refine(BA C p s w).mono ?_;rintro e w'⟨rfl,k⟩;exact⟨rfl,h.call k,ay.aB k h.le⟩
 | true =>obtain⟨h1,h2⟩:=hr rfl;obtain⟨n,rfl⟩:∃n:Nat,p=(n:Int):=⟨p.toNat,by omega⟩;exact Fk C π T F w h n _ _ (List.getElem?_eq_getElem (by simpa using h2)) s rfl hs
theorem BP(C:Cx)(π:bO)(T:gB)(F:Fd)(b:Bool)(w:Wd)(h:aM C π T F w)(p:Int)(e:Fin 8->Sp.Iv)(he:∀k,Wv (e k))(hr:df b F [.aA p e]) :
  Calls prog 84 #[.agg (wk C b),.int .i64 p,.agg (aK (some e))] w fun r w'=>r=.returned (.tuple #[])/\aM C π T (told π b F [.aA p e]) w'/\ay C w w' :=
 mD C π T F b w h p (some e) (Sp.Wf.some he) fun hb=>hr hb _ (List.mem_singleton.2 rfl)
theorem ET:(prog.info? 365).map (·.size)=some 18:=by kernel_rfl
theorem SK:(prog.info? 367).map (·.size)=some 18:=by kernel_rfl
theorem I7(p:Int)(s:ST):(mM p s).size=18:=by rw[<-Array.length_toList,mb,List.length_cons,dz]
theorem L6(p:Int)(s:ST):(mM p s).all (·.oneCell')=true:=by
 have h:=aX s;rw[Array.all_eq_true_iff_forall_mem]at h ⊢;intro x hx
 rcases Array.mem_append.1 hx with hx | hx
 ·simp at hx;subst hx;rfl
 ·exact h x hx
theorem Ij(t:ST)(d:Bool):(km t d).size=18:=by unfold km;rw[Array.size_push,aF]
theorem LJ(t:ST)(d:Bool):(km t d).all (·.oneCell')=true:=by
 have h:=aX t;rw[Array.all_eq_true_iff_forall_mem]at h ⊢;intro x hx
 rcases Array.mem_push.1 hx with hx | hx
 ·exact h x hx
 ·subst hx;rfl
theorem Jl(t:ST)(d:Bool):(km t d)[17]?=some (.bool d):=by unfold km;rw[Array.getElem?_push,aF];rfl
theorem FN(t:ST)(d:Bool)(hj:j<17):(km t d)[j]?=(aK t)[j]?:=by unfold km;rw[Array.getElem?_push,aF,if_neg (by omega)]
theorem QG(h:xa.size=17):∃a0 a1 a2 a3 a4 a5 a6 a7 a8 a9 N9 Wi a12 VS VD Xc WQ,xa=#[a0,a1,a2,a3,a4,a5,a6,a7,a8,a9,N9,Wi,a12,VS,VD,Xc,WQ]:=by
 rcases xa with⟨l⟩
 match l,h with
 | [a0,a1,a2,a3,a4,a5,a6,a7,a8,a9,N9,Wi,a12,VS,VD,Xc,WQ],_=>exact⟨a0,a1,a2,a3,a4,a5,a6,a7,a8,a9,N9,Wi,a12,VS,VD,Xc,WQ,rfl⟩
theorem LV(p:Int)(s:ST)(w:Wd):(Instr.build 365 #[(0,.int .i64 p),(1,.agg (aK s))]).run prog w=.ok (.agg (mM p s)) w:=by
 unfold mM;obtain⟨a0,a1,a2,a3,a4,a5,a6,a7,a8,a9,N9,Wi,a12,VS,VD,Xc,WQ,e⟩:=QG (aF s);rw[e]
 kernel_rfl
theorem Mw(t:ST)(d:Bool)(w:Wd):(Instr.build 367 #[(0,.agg (aK t)),(1,.bool d)]).run prog w=.ok (.agg (km t d)) w:=by
 unfold km;obtain⟨a0,a1,a2,a3,a4,a5,a6,a7,a8,a9,N9,Wi,a12,VS,VD,Xc,WQ,e⟩:=QG (aF t);rw[e]
 kernel_rfl
theorem L4{s':ST}(h:(Value.agg (mM p s))=.agg (mM p' s')):p=p'/\s=s':=by
 injection h with h
 have h2:=congrArg Array.toList h;rw[mb,mb]at h2;injection h2 with h3 h4
 injection h3 with _ h3
 exact⟨h3,GB (Array.toList_inj.1 h4)⟩
abbrev PC:TypeId:=211
theorem zf{es:Array MapEntry}(hE:∀x∈es.toList,ox π T F x):∀e∈es.toList,∃l,keyOf prog 365 e.key=some l:=fun e he=>by obtain⟨p,s,t,d,h1,h2,h3,h4,h5,h6⟩:=hE e he;rw[h1];exact Ek h3 h4
theorem IA{es:Array MapEntry}(hm:w.heap[m]?=some (.map es cl))(hE:∀x∈es.toList,ox π T F x)(hs:Sp.Wf (Kr π) s)(hp:0<=p/\p<=1000000) :
  ∃t d ok,(Instr.lookup PC (.map (some m)) (.agg (mM p s)) true).run prog w=.ok (.tuple #[.agg (km t d),.bool ok]) w/\(ok=true->(T p s).2=t/\(d=true->iO (Kr π) F (T p s).1)):=by
 obtain⟨l,hl⟩:=Ek hs hp
 rcases qn.find w hl es.toList (zf hE) with⟨h1,h2⟩ | ⟨j,e0,h1,h2,h3⟩
 ·refine⟨none,false,false,?_,fun h=>by cases h⟩
  simp[Instr.lookup,run_underlying underlying211,MapKept.run_getObj_map hm,qn.check w _ hl,h1,Result.andThen];rfl
 ·obtain⟨p',s',t,d,k1,k2,k3,k4,k5,k6⟩:=hE e0 (List.mem_of_getElem? h2)
  rw[h3]at k1;obtain⟨rfl,rfl⟩:=L4 k1;refine⟨t,d,true,?_,fun _=>⟨k5,k6⟩⟩;simp[Instr.lookup,run_underlying underlying211,MapKept.run_getObj_map hm,qn.check w _ hl,h1,k2,Result.andThen]
theorem KW{es:Array MapEntry}(hm:w.heap[m]?=some (.map es cl))(hE:∀x∈es.toList,ox π T F x)(hs:Sp.Wf (Kr π) s)(hp:0<=p/\p<=1000000){d:Bool}(h1:(T p s).2=t)(h2:d=true->iO (Kr π) F (T p s).1) :
  ∃es' cl',(Instr.mapUpdate PC (.map (some m)) (.agg (mM p s)) (.agg (km t d))).run prog w=.ok () { w with heap:=w.heap.setIfInBounds m (.map es' cl') }/\∀x∈es'.toList,ox π T F x:=by
 obtain⟨l,hl⟩:=Ek hs hp;have pF:∀born,ox π T F ⟨.agg (mM p s),.agg (km t d),born⟩:=fun born=>⟨p,s,t,d,rfl,rfl,hs,hp,h1,h2⟩
 rcases qn.find w hl es.toList (zf hE) with⟨k1,_⟩ | ⟨j,e0,k1,k2,k3⟩
 ·refine⟨es.push ⟨.agg (mM p s),.agg (km t d),cl⟩,cl+1,?_,?_⟩
  ·simp[Instr.mapUpdate,run_underlying underlying211,MapKept.run_getObj_map hm,qn.check w false hl,k1,MapKept.run_setObj_map _ hm,Result.andThen]
  ·intro x hx
   simp only[Array.toList_push,List.mem_append,List.mem_singleton]at hx
   rcases hx with hx | rfl
   ·exact hE x hx
   ·exact pF cl
 ·have hj:es[j]?=some e0:=by simpa using k2
  refine⟨es.modify j (fun e'=>{ e' with key:=.agg (mM p s),val:=.agg (km t d) }),cl,?_,?_⟩
  ·simp[Instr.mapUpdate,run_underlying underlying211,MapKept.run_getObj_map hm,qn.check w false hl,k1,hj,k3,qn.stays w hl,MapKept.run_setObj_map _ hm,Result.andThen]
  ·intro x hx
   rw[Array.toList_modify]at hx;obtain⟨i,hi⟩:=List.getElem?_of_mem hx;obtain⟨y,hy,rfl⟩:=iL hi;split
   ·exact pF _
   ·exact hE y (List.mem_of_getElem? hy)
theorem aM.OF{C:Cx}(h:aM C π T F w){es:Array MapEntry}(hE:∀x∈es.toList,ox π T F x) :
  aM C π T F { w with heap:=w.heap.setIfInBounds C.m (.map es cl) }/\ay C w { w with heap:=w.heap.setIfInBounds C.m (.map es cl) }:=by
 obtain⟨n1,n2,n3,n4,n5,n6⟩:=h.ne;have hl:=h.lt;have hk:ay C w { w with heap:=w.heap.setIfInBounds C.m (.map es cl) }:=by
  refine⟨⟨rfl,rfl,rfl,by simp,fun k hk=>?_⟩,fun k hk _ _ k3=>?_⟩
  ·have:=h.bm
   exact Array.getElem?_setIfInBounds_ne (by omega)
  ·exact Array.getElem?_setIfInBounds_ne (Ne.symm k3)
 refine⟨⟨?_,?_,?_,⟨es,cl,?_,hE⟩,h.does.below hk.below,h.turns.below hk.below h.big,h.big,h.bfb,h.bgf,h.bgs,h.bm,h.wfF⟩,hk⟩
 ·exact(Array.getElem?_setIfInBounds_ne (Ne.symm n6)).trans h.Bm
 ·exact(Array.getElem?_setIfInBounds_ne n4).trans h.A9
 ·exact(Array.getElem?_setIfInBounds_ne n5).trans h.uX
 ·exact Array.getElem?_setIfInBounds_self_of_lt hl.2.2.2
end
end WI
end Go.Proofs.YtiopfihjmkfdmaaGreatDoor
