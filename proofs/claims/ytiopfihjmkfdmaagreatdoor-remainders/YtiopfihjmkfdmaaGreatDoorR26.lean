import Derived.Test.YtiopfihjmkfdmaaGreatDoorR11
import Derived.Test.YtiopfihjmkfdmaaGreatDoorR25
import Derived.Laws.MakeOwn
import Derived.MapKept
namespace Go.Proofs.YtiopfihjmkfdmaaGreatDoor
open Go.Value renaming int→I,agg→J,bool→U,pointer→ρ,iface→σ,slice→Z,tuple→φ
open Go.IntKind renaming i64→O
open Option renaming some→Y,none→M
open Go.Obj renaming cells→L
open Go.Ending renaming returned→υ
open Go.Proofs.Tryz Sp
open Go.RowKit
set_option maxRecDepth 100000
set_option maxHeartbeats 16000000
section
namespace W
variable {δ : Bool}{π : ar δ}
section
variable{w W W':Wd}
variable{xa va c d:Array Value}
variable{l:List (Int × Int)}
variable{j b o B:Nat}
variable{ops:Array Oper}
variable{rest:List Oper}
variable{op:Oper}
variable{a:Act}
abbrev Bd(r:Bool)(l:List (Int × Int)):Array Value:=Km (fun v:Int × Int=>I O v.1) (fun v:Int × Int=>I O v.2) r l
def vJ:List (Int × Int):=List.replicate 8 (0,0)
def Dw(s:ST):Bool × List (Int × Int):=match s with
 | none=>(false,vJ)
 | some e=>(true,List.ofFn fun k=>lB (e k))
def sD(s:ST):Array Value:=Bd (Dw s).1 (Dw s).2
theorem JK(s:ST):(Dw s).2.length=8:=by cases s<;>simp[Dw,vJ]
theorem rJ(s:ST):(sD s).size=17:=DQ _ _ (JK s)
theorem GN(s:ST):(sD s).all (·.oneCell')=true:=Hb _ _ (fun _=>rfl) (fun _=>rfl) _ _
theorem AN:(prog.info? 76).map (·.size)=Y 17:=by kernel_rfl
theorem R5:(prog.info? (π.ix 218 201)).map (·.size)=Y 16:=by cases δ<;>kernel_rfl
def Um(π:ar δ)(e:Fin 8->Sp.Iv):Array Value:=(flat (fun v:Sp.Iv=>I π.kd v.a) (fun v:Sp.Iv=>I π.kd v.b) (List.ofFn e)).toArray
theorem O2(e:Fin 8->Sp.Iv)(w:Wd):∀(j:Nat) (hj:j<8),(Instr.index (π.ix 218 201) (J (Um π e)) (I O (j:Nat))).run prog w=.ok (J #[I π.kd (e ⟨j,hj⟩).a,I π.kd (e ⟨j,hj⟩).b]) w
 | 0,_=>by cases δ<;>kernel_rfl
 | 1,_=>by cases δ<;>kernel_rfl
 | 2,_=>by cases δ<;>kernel_rfl
 | 3,_=>by cases δ<;>kernel_rfl
 | 4,_=>by cases δ<;>kernel_rfl
 | 5,_=>by cases δ<;>kernel_rfl
 | 6,_=>by cases δ<;>kernel_rfl
 | 7,_=>by cases δ<;>kernel_rfl
structure yg(π:ar δ)(w:Wd)(xa:Array Value)(l:List (Int × Int))(W:Wd):Prop where
 s:W.heap[w.heap.size]?=Y (L xa (π.ix 220 203))
 z:W.heap[w.heap.size+1]?=Y (L (Bd false vJ) 76)
 x:W.heap[w.heap.size+1+1]?=Y (L (Bd true l) 76)
 b:ω w W
theorem yg.call(h:yg π w xa l W)(k:ω W W'):yg π w xa l W' :=
 ⟨(k.block _ (ad h.s)).trans h.s,(k.block _ (ad h.z)).trans h.z,(k.block _ (ad h.x)).trans h.x,h.b.trans (k.mono h.b.size)⟩
theorem yg.set(h:yg π w xa l W)(hj:j<l.length)(v:Int × Int):yg π w xa (l.set j v) ((W.setCell ⟨w.heap.size+1+1,1+j*2,M⟩ (I O v.1)).setCell ⟨w.heap.size+1+1,1+j*2+1,M⟩ (I O v.2)):=by
 have e1:w.heap.size≠w.heap.size+1+1:=by omega
 have e2:w.heap.size+1≠w.heap.size+1+1:=by omega
 refine⟨?_,?_,?_,(h.b.setCell (p:=⟨w.heap.size+1+1,1+j*2,M⟩) (by show w.heap.size<=w.heap.size+1+1;omega) _).setCell (p:=⟨w.heap.size+1+1,1+j*2+1,M⟩) (by show w.heap.size<=w.heap.size+1+1;omega) _⟩
 ·rw[Below.heap_setCell _ _ _ _ e1,Below.heap_setCell _ _ _ _ e1];exact h.s
 ·rw[Below.heap_setCell _ _ _ _ e2,Below.heap_setCell _ _ _ _ e2];exact h.z
 ·rw[ah (ah h.x (1+j*2) (I O v.1)) (1+j*2+1) (I O v.2)]
  congr 2;exact G1 (fun v:Int × Int=>I O v.1) (fun v:Int × Int=>I O v.2) v hj
def iZ(e:Fin 8->Sp.Iv)(j:Nat):List (Int × Int):=(List.ofFn fun k=>lB (e k)).take j ++ List.replicate (8 - j) (0,0)
theorem zf(e:Fin 8->Sp.Iv)(h:j<=8):(iZ e j).length=8:=by unfold iZ;simp;omega
theorem JV(e:Fin 8->Sp.Iv)(h:j<8):(iZ e j).set j (lB (e ⟨j,h⟩))=iZ e (j+1):=by
 have hl:((List.ofFn fun k=>lB (e k)).take j).length=j:=by simp;omega
 have hg:(List.ofFn fun k=>lB (e k))[j]?=Y (lB (e ⟨j,h⟩)):=by rw[List.getElem?_ofFn,dif_pos h]
 have hk:=List.getElem?_eq_some_iff.1 hg;unfold iZ;rw[List.set_append_right _ _ (by omega),hl,Nat.sub_self,show 8 - j=(8 - (j+1))+1 by omega,List.replicate_succ,List.set_cons_zero,List.take_succ_eq_append_getElem hk.1,hk.2,List.append_assoc];rfl
theorem JA(e:Fin 8->Sp.Iv):iZ e 8=List.ofFn fun k=>lB (e k):=by unfold iZ;rw[List.take_of_length_le (by simp)];simp
theorem MG{e:Fin 8->Sp.Iv}(h:Bk w b (π.aI (Y e)) (π.ix 220 203)):w.rangeAt b 1 (Um π e).toList:=fun j v hv=>by refine cell_of h _ ?_;have:(π.aI (Y e)).toList=U true :: (Um π e).toList:=rfl;rw[<-Array.getElem?_toList,this,Nat.add_comm 1 j,List.getElem?_cons_succ];exact hv
theorem RN{Q:Exit->Act->Wd->Prop}(qM:op.guard=M)(x:Operand)(ho:op.op=.load (π.ix 218 201) x)(hx:a.eval x=ρ (Y ⟨b,1,M⟩))(h:w.rangeAt b 1 va.toList)(hc:va.size=16)
  (k:wpList prog ops Q rest (a.put op.dst (J va)) w):wpList prog ops Q (op :: rest) a w:=by
 cases δ
 all_goals
  try dsimp only [ar.ix,ar.kd]at *
  refine wpList_load_mid qM (π.ix 218 201) x ho b 1 hx va.toList _ h (by first | exact underlying218 | exact underlying201) rfl (by rw[R5];simp[hc]) ?_;simpa using k
theorem S4{Q:Exit->Act->Wd->Prop}(qM:op.guard=M)(x:Operand)(ho:op.op=.load 76 x)(hx:a.eval x=ρ (Y ⟨b,0,M⟩))(h:Bk w b c 76)(hc:c.size=17)
  (k:wpList prog ops Q rest (a.put op.dst (J c)) w):wpList prog ops Q (op :: rest) a w:=by
 refine wpList_load_mid qM 76 x ho b 0 hx c.toList _ (aP h) underlying76 rfl (by rw[AN];simp[hc]) ?_;simpa using k
theorem Nz{Q:Exit->Act->Wd->Prop}(qM:op.guard=M)(x y:Operand)(ho:op.op=.store 76 x y)(hx:a.eval x=ρ (Y ⟨b,o,M⟩))(hy:a.eval y=J d)(h:w.there b o 17)(hd:d.size=17)(h1:d.all (·.oneCell')=true)
  (k:wpList prog ops Q rest (a.put op.dst undef) (w.setCells b o d.toList)):wpList prog ops Q (op :: rest) a w :=
 wpList_plain qM fun _ hK=>wp_store_mid 76 x y ho b o d hx hy (by rw[hd];exact h) (by rw[AN,hd]) h1 (hK _ _ k)
theorem Mf{fr:Nat × Nat}(h:w.heap[b]?=Y (L c 76 fr))(hc:c.size=17) :
  (loadVar 76 ⟨b,0,M⟩).run prog w=.ok (J c) w:=by
 have:=run_loadVar_mid (P:=prog) w b 0 76 c.toList _ (fun j v hv=>by rw[Nat.zero_add];exact cell_of h j (by simpa using hv)) underlying76 rfl (by rw[AN];simp[hc]);simpa using this
theorem Eo{fn:Func}{a:Tmp}(Gj:fn.results=#[.cell a 76])(tmps:Array Value)(w:Wd)(ht:tmps.getD a undef=ρ (Y ⟨b,0,M⟩))(h:Bk w b c 76)(hc:c.size=17) :
  (results fn tmps).run prog w=.ok (J c) w:=by
 have hl:=Mf h hc;have Tu:tmps[a]?.getD undef=ρ (Y ⟨b,0,M⟩):=by rw[<-ht];simp
 unfold results;rw[Gj];simp[asAddr,Tu,hl]
theorem Fe{π:ar δ}(dv:Value)(e:Fin 8->Sp.Iv)(w:Wd)(hd:fL B π dv w)(he:∀k,π.Wv (e k)) :
  Calls prog (π.ix 117 114) #[σ (π.ix 133 128) dv,J (π.aI (Y e))] w fun r w'=>r=υ (J (sD (Y e)))/\ω w w':=by
 cases δ
 all_goals
  try dsimp only [ar.ix,ar.kd]at *
  have HTL:Hid (∀W j (hj:j<8),ω w W->Calls _ _ _ W _):=fun W j hj hb=>Vz (B:=B) (π:=π) (dv:=dv) (hd.below (hb.mono hd.size)) (he ⟨j,hj⟩)
  have Xv:Hid (∀j (hj:j<8) w,_):=fun j hj w=>O2 (π:=π) e w j hj
  have v16:(Um π e).size=16:=by unfold Um;rw[List.size_toArray,Dp];simp
  have hrv:=fun(W:Wd) b=>MG (π:=π) (w:=W) (b:=b) (e:=e)
  have HRV:=hid hrv;have fu:=π.aD (Y e);generalize π.aI (Y e)=xa at *;generalize Um π e=va at *;have H0:Hid (yg π w xa (iZ e 0) (((w.alloc (L xa (π.ix 220 203))).alloc (L (Bd false vJ) 76)).alloc (L (Bd true (iZ e 0)) 76))):=by obtain⟨k0,k1,k2,kb⟩:=cH (w:=w) (o1:=L xa (π.ix 220 203)) (o2:=L (Bd false vJ) 76) (o3:=L (Bd true (iZ e 0)) 76) (Below.refl _ _);exact⟨k0,k1,k2,kb⟩
  have Yu:=HRV.out _ _ H0.s;have HR:=hid Yu;clear Yu hrv hd;try dsimp only [ar.ix,ar.kd]at *
  first | go_enter func117,ntmps117 | go_enter func114,ntmps114
  go_wp2_with (first
   | (refine RN (π:=π) rfl _ rfl rfl (by exact HR.out) v16 ?_))
  change Code.wp _ _ _ _ (((w.alloc (L xa (π.ix 220 203))).alloc (L (Bd false vJ) 76)).alloc (L (Bd true (iZ e 0)) 76));generalize ((w.alloc (L xa (π.ix 220 203))).alloc (L (Bd false vJ) 76)).alloc (L (Bd true (iZ e 0)) 76)=W0 at *
  go_loopw [11] (fun v11 wr=>∃j:Nat,j<=8/\v11=I O j/\Hid (yg π w xa (iZ e j) wr)) (fun v11 _=>8 - (intOf v11).toNat)
  case atStart=>exact⟨0,Nat.zero_le _,rfl,H0.out⟩
  case round =>
   obtain⟨j,hj,rfl,hq⟩:=hrel;clear H0 HR;by_cases gu:j<8
   ·have hix:=Xv.out j gu
    have yf:(j:Int)<8:=by omega
    have hme:∀w,(method 587 (π.ix 133 128) dv "Tell").run prog w=.ok ((π.ix 325 302),dv) w:=fun w=>by kernel_rfl
    have kb:=below_alloc1 wr (L #[I π.kd (e ⟨j,gu⟩).a,I π.kd (e ⟨j,gu⟩).b] (π.ix 131 126));have h1:=hq.call kb;have HC:=HTL.out _ j gu h1.b;have H1:Hid (yg π w xa (iZ e j) _):=h1;clear kb h1;go_wp2_with fail;refine HC.mono ?_;rintro r w1⟨rfl,b1⟩;have h2:=H1.call b1;obtain⟨x,hxj⟩:∃x,(iZ e j)[j]?=Y x:=⟨_,List.getElem?_eq_getElem (by rw[zf _ hj];omega)⟩;have y0:=cell_of h2.x _ (AZ (fun v:Int × Int=>I O v.1) (fun v:Int × Int=>I O v.2) hxj).1;have y1:=cell_of h2.x _ (AZ (fun v:Int × Int=>I O v.1) (fun v:Int × Int=>I O v.2) hxj).2;have f0:=aw h2.x (1+j*2);have f1:=aw h2.x (1+j*2+1);have A3:Hid (yg π w xa (iZ e (j+1)) ((w1.setCell ⟨w.heap.size+1+1,1+j*2,M⟩ (I O (lB (e ⟨j,gu⟩)).1)).setCell ⟨w.heap.size+1+1,1+j*2+1,M⟩ (I O (lB (e ⟨j,gu⟩)).2))):=by unfold Hid;rw[<-JV e gu];exact h2.set (by rw[zf _ hj];omega) _
    clear hxj h2 b1 HC H1 hix;go_wp2_with fail;exact⟨⟨j+1,by omega,by go_num,A3⟩,by simp[intOf];omega⟩
   ·obtain rfl:j=8:=by omega
    have hx:=hq.x;have f17:=rJ (Y e);have ZO:=GN (Y e);have e8:Bd true (iZ e 8)=sD (Y e):=by rw[JA];rfl
    rw[e8]at hx;generalize Qk:sD (Y e)=fa at *;have HFA:=hid Qk;have HX:Hid (_=_):=hx;have hr:Hid (_=_):=ao hq.z (d:=fa) (by rw[f17];rfl);have HB:Hid (ω w _):=aq (b:=w.heap.size+1) (by omega) fa.toList 0 w _ hq.b;have HTH:=hid (bM hq.z);clear Qk hx e8 hj gu;go_wp2_with (first
     | (refine S4 rfl _ rfl rfl HX.out f17 ?_)
     | (refine Nz rfl _ _ rfl rfl rfl HTH.out f17 ZO ?_))
    refine bodyPost_ret (Eo rfl _ _ rfl hr.out f17) rfl ⟨by rw[HFA.out],HB.out⟩
end
end W
end
section
namespace W
variable {δ : Bool}{π : ar δ}
section
variable{k n j B gf p b o:Nat}
variable{z c:Array Value}
variable{dv:Value}
variable{w W W':Wd}
variable{fs l:List ST}
theorem nu{α:Type}{f:α->List Value}{a:α}(hz:f a=z.toList)(hk:∀a,(f a).length=k)(ZD:0<k):madeCells z (n*k)=((List.replicate n a).flatMap f).toArray:=by
 have hs:z.size=k:=by rw[<-Array.length_toList,<-hz,hk]
 refine Array.ext_getElem? fun i=>?_
 have er:((List.replicate n a).flatMap f).toArray[i]?=((List.replicate n a).flatMap f)[i]?:=List.getElem?_toArray;rw[er];by_cases hi:i<n*k
 ·have e:i=i / k*k+i % k:=by rw[Nat.mul_comm];exact(Nat.div_add_mod i k).symm
  have h1:i / k<n:=Nat.div_lt_of_lt_mul (by rw[Nat.mul_comm];exact hi);have h2:i % k<k:=Nat.mod_lt _ ZD;have h3:=gX hk (List.replicate n a) (i / k) a (i % k) (by rw[List.getElem?_replicate,if_pos h1]) h2;rw[<-e]at h3;rw[h3,hz];unfold madeCells;rw[Array.getElem?_map,Array.getElem?_range,if_pos hi];simp only[Option.map_some];rw[hs,Array.getElem?_toList,getElem!_pos z (i % k) (by omega),Array.getElem?_eq_getElem (by omega)]
 ·rw[Array.getElem?_eq_none (by rw[size_madeCells];omega),List.getElem?_eq_none (by rw[fw hk,List.length_replicate];omega)]
def eH(fs:List ST):List Value:=fs.flatMap fun s=>(sD s).toList
theorem jL(s:ST):(sD s).toList.length=17:=by rw[Array.length_toList];exact rJ s
theorem SX:(prog.info? 76).map (fun i=>(i.zero,i.size,i.bytes))=Y (Y (J (sD M)),17,136):=by kernel_rfl
theorem En(n:Nat)(hn:n<=1000000)(w:Wd):(Instr.makeSlice 62 (I O (n:Nat)) (I O (n:Nat))).run prog w=.ok (Z (Y ⟨w.heap.size,0,M⟩) n n) (w.alloc (L (eH (List.replicate n M)).toArray 76)):=by obtain⟨i,hi,hz⟩:=Option.map_eq_some_iff.1 SX;simp only[Prod.mk.injEq]at hz;obtain⟨h1,h2,h3⟩:=hz;have:=run_make (P:=prog) w 62 76 i _ underlying62 hi h1 O O n n (by omega) (Int.le_refl _) (by rw[h3];omega) (by omega);rw[this,h2];simp only[Int.toNat_natCast];congr 4;exact nu (f:=fun s=>(sD s).toList) (a:=M) (z:=sD M) rfl jL (by omega)
def nI(fs:List ST)(j:Nat):List ST:=fs.take j ++ List.replicate (fs.length - j) M
theorem LO(fs:List ST)(h:j<=fs.length):(nI fs j).length=fs.length:=by unfold nI;simp;omega
theorem KP(fs:List ST)(h:j<fs.length){s:ST}(hs:fs[j]?=Y s):(nI fs j).set j s=nI fs (j+1):=by
 have hl:(fs.take j).length=j:=by simp;omega
 have hk:=List.getElem?_eq_some_iff.1 hs;unfold nI;rw[List.set_append_right _ _ (by omega),hl,Nat.sub_self,show fs.length - j=(fs.length - (j+1))+1 by omega,List.replicate_succ,List.set_cons_zero,List.take_succ_eq_append_getElem hk.1,hk.2,List.append_assoc];rfl
theorem Jc(fs:List ST)(h:j<fs.length)(hs:fs[j]?=Y M):nI fs (j+1)=nI fs j:=by
 have hl:(fs.take j).length=j:=by simp;omega
 have hk:=List.getElem?_eq_some_iff.1 hs;unfold nI;rw[show fs.length - j=(fs.length - (j+1))+1 by omega,List.replicate_succ,List.take_succ_eq_append_getElem hk.1,hk.2,List.append_assoc];rfl
theorem KX(fs:List ST):nI fs fs.length=fs:=by unfold nI;simp
structure uM(B:Nat)(π:ar δ)(dv:Value)(gf:Nat)(w:Wd)(fs l:List ST)(W:Wd):Prop where
 d:fL B π dv W
 g:W.heap[gf]?=Y (L (π.cO fs).toArray (π.ix 220 203))
 x:W.heap[w.heap.size]?=Y (L (eH l).toArray 76)
 b:ω w W
theorem uM.call{π:ar δ}(h:uM B π dv gf w fs l W)(k:ω W W'):uM B π dv gf w fs l W' :=
 ⟨h.d.below (k.mono h.d.size),(k.block _ (ad h.g)).trans h.g,(k.block _ (ad h.x)).trans h.x,h.b.trans (k.mono h.b.size)⟩
theorem uM.set{π:ar δ}(h:uM B π dv gf w fs l W)(hB:B<=w.heap.size)(hg:gf<w.heap.size)(hj:j<l.length)(s:ST):uM B π dv gf w fs (l.set j s) (W.setCells w.heap.size (j*17) (sD s).toList):=by
 have hb:ω w (W.setCells w.heap.size (j*17) (sD s).toList):=aq (b:=w.heap.size) (Nat.le_refl _) _ _ _ _ h.b;have Is:Below w.heap.size W (W.setCells w.heap.size (j*17) (sD s).toList):=aq (b:=w.heap.size) (Nat.le_refl _) _ _ _ _ (Below.refl _ _);refine⟨h.d.below (Is.mono hB),(aj _ _ _ _ (by omega)).trans h.g,?_,hb⟩;obtain⟨c',h1,h2,h3,h4⟩:=fP (sD s).toList (j*17) W (eH l).toArray h.x (by rw[jL,List.size_toArray];unfold eH;rw[fw jL];have:(j+1)*17<=l.length*17:=Nat.mul_le_mul_right _ hj;omega)
 rw[h1];congr 2;refine Array.ext_getElem? fun i=>?_
 have e2:(eH (l.set j s)).toArray[i]?=((l.set j s).flatMap fun s=>(sD s).toList)[i]?:=List.getElem?_toArray;rw[e2,pq jL l j s i hj];by_cases hi:j*17<=i/\i<j*17+17
 ·rw[if_pos hi]
  have:=h3 (i - j*17) (by rw[jL];omega);rw[show j*17+(i - j*17)=i by omega]at this;exact this
 ·rw[if_neg hi,h4 i (by rw[jL];omega),List.getElem?_toArray]
  rfl
theorem uM.there{π:ar δ}(h:uM B π dv gf w fs l W)(hj:j<l.length):W.there w.heap.size (j*17) 17:=by
 intro i hi;refine⟨?_,aw h.x _⟩;have hl:j*17+i<(eH l).toArray.size:=by rw[List.size_toArray];unfold eH;rw[fw jL];have:(j+1)*17<=l.length*17:=Nat.mul_le_mul_right _ hj;omega
 rw[cell_of h.x _ (Array.getElem?_eq_getElem hl)];rfl
theorem Da(h:w.heap[gf]?=Y (L (π.cO fs).toArray (π.ix 220 203))){f:ST}(hp:fs[p]?=Y f):w.rangeAt gf (p*17) (π.aI f).toList:=by
 intro j v hv;have hj:j<17:=by have:=(List.getElem?_eq_some_iff.1 hv).1;rw[π.dj]at this;exact this
 refine cell_of h _ ?_;rw[List.getElem?_toArray];show(fs.flatMap fun s=>(π.aI s).toList)[p*17+j]?=Y v;rw[gX π.dj fs p f j hp hj];exact hv
theorem L2{ops:Array Oper}{rest:List Oper}{op:Oper}{a:Act}{Q:Exit->Act->Wd->Prop}(qM:op.guard=M)(x:Operand)(ho:op.op=.load (π.ix 220 203) x)(hx:a.eval x=ρ (Y ⟨b,o,M⟩))(h:w.rangeAt b o c.toList)(hc:c.size=17)
  (k:wpList prog ops Q rest (a.put op.dst (J c)) w):wpList prog ops Q (op :: rest) a w:=by
 cases δ
 all_goals
  try dsimp only [ar.ix,ar.kd]at *
  refine wpList_load_mid qM (π.ix 220 203) x ho b o hx c.toList _ h (by first | exact underlying220 | exact underlying203) rfl (by rw[eh (π:=π)];simp[hc]) ?_;simpa using k
theorem KS(w:Wd)(u:Array Value)(h:u.size=17) :
  (w.alloc (L π.zS (π.ix 220 203))).heap[w.heap.size]?=Y (L π.zS (π.ix 220 203)) /\
  ((w.alloc (L π.zS (π.ix 220 203))).setCells w.heap.size 0 u.toList).heap[w.heap.size]?=Y (L u (π.ix 220 203)) /\
  ω w ((w.alloc (L π.zS (π.ix 220 203))).setCells w.heap.size 0 u.toList):=by
 have a1:=heap_alloc_new w (L π.zS (π.ix 220 203));exact⟨a1,ao a1 (by rw[h];rfl),aq (Nat.le_refl _) _ _ _ _ (below_alloc1 w _)⟩
theorem CU{π:ar δ}(dv:Value)(gf cf:Nat)(fs:List ST)(w:Wd)(hd:fL B π dv w)(hg:w.heap[gf]?=Y (L (π.cO fs).toArray (π.ix 220 203)))(hw:∀s∈fs,Sp.Wf (Kr π) s)(hn:fs.length<=1000000) :
  Calls prog (π.ix 85 81) #[σ (π.ix 133 128) dv,Z (Y ⟨gf,0,M⟩) fs.length cf] w fun r w'=>r=υ (Z (Y ⟨w.heap.size,0,M⟩) fs.length fs.length)/\w'.heap[w.heap.size]?=Y (L (eH fs).toArray 76)/\ω w w':=by
 cases δ
 all_goals
  try dsimp only [ar.ix,ar.kd]at *
  have Kt:=En fs.length hn;have YN:Hid (∀W (e:Fin 8->Sp.Iv),fL B π dv W->(∀k,π.Wv (e k))->Calls _ _ _ W _):=fun W e hW he=>Fe (π:=π) dv e W hW he
  have uA:=ad hg;have hB:=hd.size;have H0:Hid (uM B π dv gf w fs (nI fs 0) (w.alloc (L (eH (List.replicate fs.length M)).toArray 76))):=by have kb:=below_alloc1 w (L (eH (List.replicate fs.length M)).toArray 76);exact⟨hd.below (kb.mono hB),(kb.block _ uA).trans hg,heap_alloc_new _ _,kb⟩
  have HW:=hid hw;have Tb:(fs.length:Int)<=1000000:=by omega
  clear hd hg hw;try dsimp only [ar.ix,ar.kd]
  first | go_enter func85,ntmps85 | go_enter func81,ntmps81
  go_wp2_with fail;generalize w.alloc (L (eH (List.replicate fs.length M)).toArray 76)=W0 at *;clear Kt
  go_loopw [13] (fun Ua wr=>∃j:Nat,j<=fs.length/\Ua=I O j/\Hid (uM B π dv gf w fs (nI fs j) wr)) (fun Ua _=>fs.length - (intOf Ua).toNat)
  case atStart=>exact⟨0,Nat.zero_le _,rfl,H0.out⟩
  case round =>
   obtain⟨j,hj,rfl,hq⟩:=hrel;clear H0;by_cases gu:j<fs.length
   ·obtain⟨f,hf⟩:∃f,fs[j]?=Y f:=⟨_,List.getElem?_eq_getElem gu⟩
    have yf:((j:Nat):Int)<((fs.length:Nat):Int):=by omega
    have YR:=hid (Da hq.g hf);have Uh:=HW.out f (List.mem_of_getElem? hf);obtain⟨xa,nJ⟩:∃xa,xa=π.aI f:=⟨_,rfl⟩;rw[<-nJ]at YR;have fu:xa.size=17:=by rw[nJ];exact π.aD f
    have x1:xa.all (·.oneCell')=true:=by rw[nJ];exact π.aV f
    have uS:xa[0]?=Y (U f.isSome):=by rw[nJ];cases f<;>rfl
    obtain⟨t1,t2,tb⟩:=KS (π:=π) wr xa fu;have T1:=hid t1;have T2:=hid t2;have H2:Hid (uM B π dv gf w fs (nI fs j) _):=hq.call tb;have c0:=cell_of t2 0 uS;have OB:=hid nJ;have hjm:j*17<9223372036854775807:=by omega
    clear t1 t2 tb nJ;cases f with
    | none =>
     have hm:Hid (nI fs (j+1)=nI fs j):=Jc fs gu hf;go_wp2_with (first
      | (refine L2 (π:=π) rfl _ rfl rfl YR.out fu ?_)
      | (refine bT (π:=π) rfl _ _ rfl rfl rfl (by exact T1.out) rfl fu x1 ?_))
     exact⟨⟨j+1,by omega,by go_num,by rw[hm.out];exact H2⟩,by simp[intOf];omega⟩
    | some e =>
     have hm:Hid ((nI fs j).set j (Y e)=nI fs (j+1)):=KP fs gu hf;have hC:=YN.out _ e H2.d (Uh e rfl);rw[<-OB.out]at hC;have HC:=hid hC;have f17:=rJ (Y e);have ZO:=GN (Y e);generalize Qk:sD (Y e)=fa at *;have HFA:=hid Qk;clear hC Qk;go_wp2_with (first
      | (refine L2 (π:=π) rfl _ rfl rfl YR.out fu ?_)
      | (refine bT (π:=π) rfl _ _ rfl rfl rfl (by exact T1.out) rfl fu x1 ?_)
      | (refine bu (π:=π) rfl _ rfl rfl (by exact T2.out) fu ?_))
     refine HC.mono ?_;rintro r w1⟨rfl,b1⟩;have h3:=H2.call b1;have hlm:j<(nI fs j).length:=by rw[LO fs hj];exact gu
     have HTH:=hid (h3.there hlm);have H4:Hid (uM B π dv gf w fs (nI fs (j+1)) (w1.setCells w.heap.size (j*17) fa.toList)):=by unfold Hid;rw[<-hm.out,<-HFA.out];exact h3.set hB uA hlm (Y e)
     clear h3 b1 HC H2 T1 T2 c0 YR;go_wp2_with (first
      | (refine Nz rfl _ _ rfl rfl rfl HTH.out f17 ZO ?_))
     exact⟨⟨j+1,by omega,by go_num,H4⟩,by simp[intOf];omega⟩
   ·obtain rfl:j=fs.length:=by omega
    have hx:=hq.x;rw[KX]at hx;have HX:Hid (_=_):=hx;have HB:=hid hq.b;clear hx;go_wp2_with fail;go_ret;exact⟨rfl,HX.out,HB.out⟩
end
end W
end
namespace W
section
variable{w w':Wd}
variable{g o n m B:Nat}
variable{a a':Option Addr}
theorem LQ:(prog.info? 3).map (fun i=>(i.zero,i.size,i.bytes))=Y (Y (I O 0),1,8):=by kernel_rfl
theorem wA(n:Nat)(hn:n<=1000000)(w:Wd):(Instr.makeSlice 35 (I O (n:Nat)) (I O (n:Nat))).run prog w=.ok (Z (Y ⟨w.heap.size,0,M⟩) n n) (w.alloc (L (cF (List.replicate n 0)).toArray 3)):=by obtain⟨i,hi,hz⟩:=Option.map_eq_some_iff.1 LQ;simp only[Prod.mk.injEq]at hz;obtain⟨h1,h2,h3⟩:=hz;have:=run_make (P:=prog) w 35 3 i _ underlying35 hi h1 O O n n (by omega) (Int.le_refl _) (by rw[h3];omega) (by omega);rw[this,h2];simp only[Int.toNat_natCast];congr 4;have:=nu (f:=fun k:Nat=>[Value.int O ((k:Nat):Int)]) (k:=1) (n:=n) (a:=0) (z:=#[I O 0]) rfl (fun _=>rfl) (by omega);rw[show(Value.int O 0).cells=#[I O 0] from rfl,this];unfold cF;rw[List.map_eq_flatMap]
abbrev Vb:=List (Option (Fin 8->Sp.Iv)) × List Nat
def zl(B:Nat)(w:Wd)(v:Value)(F:Vb):Prop :=
 ∃g h,v=J #[Z (Y ⟨g,0,M⟩) F.1.length F.1.length,Z (Y ⟨h,0,M⟩) F.2.length F.2.length]/\B<=g/\B<=h/\w.heap[g]?=Y (L (eH F.1).toArray 76)/\w.heap[h]?=Y (L (cF F.2).toArray 3)
structure AY(w:Wd)(a:Option Addr)(n:Nat)(a':Option Addr)(m:Nat)(F:Vb):Prop where
 n:n=F.1.length
 m:m=F.2.length
 f:∀i s,F.1[i]?=Y s->∃g,a=Y ⟨g,0,M⟩/\w.rangeAt g (i*17) (sD s).toList
 s:∀i k,F.2[i]?=Y k->∃g,a'=Y ⟨g,0,M⟩/\w.cell? ⟨g,i,M⟩=Y (I O ((k:Nat):Int))
theorem Ci{l:List Value}(h:w.rangeAt g o l)(b:ω w w'):w'.rangeAt g o l:=fun j v hv=>by have h1:=h j v hv;rw[b.cell (p:=⟨g,o+j,M⟩) (nC h1)];exact h1
theorem AY.below{F:Vb}(h:AY w a n a' m F)(b:ω w w'):AY w' a n a' m F:=by
 refine⟨h.n,h.m,fun i s hs=>?_,fun i k hk=>?_⟩
 ·obtain⟨g,h1,h2⟩:=h.f i s hs
  exact⟨g,h1,Ci h2 b⟩
 ·obtain⟨g,h1,h2⟩:=h.s i k hk
  exact⟨g,h1,by rw[b.cell (p:=⟨g,i,M⟩) (nC h2)];exact h2⟩
theorem AY.of{v:Value}{F:Vb}(h:zl B w v F):∃a n a' m,v=J #[Z a n n,Z a' m m]/\AY w a n a' m F:=by
 obtain⟨g,h,rfl,_,_,h1,h2⟩:=h;refine⟨_,_,_,_,rfl,rfl,rfl,fun i s hs=>⟨g,rfl,?_⟩,fun i k hk=>⟨h,rfl,?_⟩⟩
 ·intro j v hv
  have hj:j<17:=by have:=(List.getElem?_eq_some_iff.1 hv).1;rw[jL]at this;exact this
  refine cell_of h1 _ ?_;rw[List.getElem?_toArray];show(F.1.flatMap fun s=>(sD s).toList)[i*17+j]?=Y v;rw[gX jL F.1 i s j hs hj];exact hv
 ·exact cell_of h2 i (pY hk)
end
end W
section
namespace W
variable {δ : Bool}{π : ar δ}
section
variable{s t:ST}
def AW(π:ar δ)(x:Sp.Iv):List Lit:=[.int π.kd (vA x),.int π.kd (vB x)]
theorem ar.Ck(π:ar δ)(D:Nat)(n:Int)(h:(Lit.int π.kd n).wf=true):prog.keyLits (D+1) (π.ix 48 2) [.int π.kd n]=Y [.int π.kd n]:=by
 cases δ
 all_goals
  dsimp only [ar.ix,ar.kd]at *
  unfold Program.keyLits
  first | rw[underlying48] | rw[underlying2]
  exact if_pos ⟨rfl,h⟩
theorem IS(D:Nat)(b:Bool):prog.keyLits (D+1) 4 [.bool b]=Y [.bool b]:=by unfold Program.keyLits;rw[underlying4]
theorem Nk(D:Nat)(n:Int)(h:(Lit.int O n).wf=true):prog.keyLits (D+1) 3 [.int O n]=Y [.int O n]:=by unfold Program.keyLits;rw[underlying3];exact if_pos ⟨rfl,h⟩
theorem ar.Jy(π:ar δ):prog.cellsOf (π.ix 48 2)=1:=by cases δ<;>kernel_rfl
theorem FH:prog.cellsOf 4=1:=by kernel_rfl
theorem I1:prog.cellsOf 3=1:=by kernel_rfl
theorem ar.sG(π:ar δ):prog.cellsOf (π.ix 131 126)=2:=by cases δ<;>kernel_rfl
theorem ar.sB(π:ar δ):prog.cellsOf (π.ix 218 201)=16:=by cases δ<;>kernel_rfl
theorem ar.rR(π:ar δ):prog.cellsOf (π.ix 220 203)=17:=by cases δ<;>kernel_rfl
theorem ar.vC(π:ar δ):prog.cellsOf (π.ix 365 356)=18:=by cases δ<;>kernel_rfl
theorem ar.Ll(π:ar δ)(D:Nat)(x:Sp.Iv)(h:xq π x):prog.keyLits (D+1+1) (π.ix 131 126) [.int π.kd x.a,.int π.kd x.b]=Y (AW π x):=by
 cases δ
 all_goals
  dsimp only [ar.ix,ar.kd]at *
  unfold Program.keyLits
  first | rw[underlying131,π.sG] | rw[underlying126,π.sG]
  refine(if_pos ⟨rfl,by kernel_rfl⟩).trans ?_;simp only[List.mapM_cons,List.mapM_nil,π.Jy,List.drop_zero,List.drop_succ_cons,List.take_succ_cons,List.take_zero,π.Ck D _ h.1,π.Ck D _ h.2];rfl
theorem ar.Mm(π:ar δ)(D:Nat)(e:Fin 8->Sp.Iv)(h:∀k,xq π (e k)):prog.keyLits (D+1+1+1) (π.ix 218 201) [.int π.kd (e 0).a,.int π.kd (e 0).b,.int π.kd (e 1).a,.int π.kd (e 1).b,.int π.kd (e 2).a,.int π.kd (e 2).b,.int π.kd (e 3).a,.int π.kd (e 3).b,.int π.kd (e 4).a,.int π.kd (e 4).b,.int π.kd (e 5).a,.int π.kd (e 5).b,.int π.kd (e 6).a,.int π.kd (e 6).b,.int π.kd (e 7).a,.int π.kd (e 7).b]=Y (AW π (e 0) ++ (AW π (e 1) ++ (AW π (e 2) ++ (AW π (e 3) ++ (AW π (e 4) ++ (AW π (e 5) ++ (AW π (e 6) ++ AW π (e 7)))))))):=by
 cases δ
 all_goals
  dsimp only [ar.ix,ar.kd]at *
  unfold Program.keyLits
  first | rw[underlying218,π.sB] | rw[underlying201,π.sB]
  refine(if_pos rfl).trans ?_;simp only[π.sG,show List.range 8=[0,1,2,3,4,5,6,7] from rfl,List.mapM_cons,List.mapM_nil,Nat.reduceMul,List.drop_zero,List.drop_succ_cons,List.take_succ_cons,List.take_zero,π.Ll D _ (h _)];rfl
def Bu(π:ar δ)(e:Fin 8->Sp.Iv):List Value:=[I π.kd (e 0).a,I π.kd (e 0).b,I π.kd (e 1).a,I π.kd (e 1).b,I π.kd (e 2).a,I π.kd (e 2).b,I π.kd (e 3).a,I π.kd (e 3).b,I π.kd (e 4).a,I π.kd (e 4).b,I π.kd (e 5).a,I π.kd (e 5).b,I π.kd (e 6).a,I π.kd (e 6).b,I π.kd (e 7).a,I π.kd (e 7).b]
theorem ar.Aj(π:ar δ)(s:ST):∃b e,(π.aI s).toList=U b :: Bu π e/\b=s.isSome/\((∃g,s=Y g/\e=g)∨(s=M/\e=fun _=>⟨0,0⟩)):=by
 cases s with
 | none=>exact⟨false,fun _=>⟨0,0⟩,by rfl,rfl,.inr ⟨rfl,rfl⟩⟩
 | some e=>exact⟨true,e,by rfl,rfl,.inl ⟨e,rfl,rfl⟩⟩
theorem ar.KY(π:ar δ)(hs:Sp.Wf (Kr π) s):∃b e,(π.aI s).toList=U b :: Bu π e/\∀k,xq π (e k):=by
 obtain⟨b,e,h1,_,h⟩:=π.Aj s;refine⟨b,e,h1,?_⟩
 rcases h with⟨g,rfl,rfl⟩ | ⟨_,rfl⟩
 ·exact fun k=>Sl (hs _ rfl k)
 ·exact fun _=>KW
theorem LM{e g:Fin 8->Sp.Iv}(h:Bu π e=Bu π g):e=g:=by
 unfold Bu at h;simp only[List.cons.injEq,Value.int.injEq,true_and,and_true]at h;funext k
 match k with
 | 0=>exact ux h.1 h.2.1
 | 1=>exact ux h.2.2.1 h.2.2.2.1
 | 2=>exact ux h.2.2.2.2.1 h.2.2.2.2.2.1
 | 3=>exact ux h.2.2.2.2.2.2.1 h.2.2.2.2.2.2.2.1
 | 4=>exact ux h.2.2.2.2.2.2.2.2.1 h.2.2.2.2.2.2.2.2.2.1
 | 5=>exact ux h.2.2.2.2.2.2.2.2.2.2.1 h.2.2.2.2.2.2.2.2.2.2.2.1
 | 6=>exact ux h.2.2.2.2.2.2.2.2.2.2.2.2.1 h.2.2.2.2.2.2.2.2.2.2.2.2.2.1
 | 7=>exact ux h.2.2.2.2.2.2.2.2.2.2.2.2.2.2.1 h.2.2.2.2.2.2.2.2.2.2.2.2.2.2.2
theorem ar.Hs(π:ar δ)(h:π.aI s=π.aI t):s=t:=by
 obtain⟨b,e,h1,h2,h3⟩:=π.Aj s;obtain⟨b',e',o7,Ij,xJ⟩:=π.Aj t;rw[h,o7]at h1;injection h1 with hb he
 have he:=LM he;injection hb with hb
 subst he
 rcases h3 with⟨g,rfl,rfl⟩ | ⟨rfl,rfl⟩<;>rcases xJ with⟨g',rfl,rfl⟩ | ⟨rfl,h5⟩
 ·rfl
 ·rw[h2,Ij]at hb;cases hb
 ·rw[h2,Ij]at hb;cases hb
 ·rfl
theorem ar.Hg(π:ar δ)(D:Nat)(b:Bool)(e:Fin 8->Sp.Iv)(h:∀k,xq π (e k)):∃μ,prog.keyLits (D+1+1+1+1) (π.ix 220 203) (.bool b :: Bu π e)=Y μ:=by
 cases δ
 all_goals
  dsimp only [ar.ix,ar.kd]at *
  unfold Program.keyLits
  first | rw[underlying220,π.rR] | rw[underlying203,π.rR]
  refine⟨?_,(if_pos ⟨rfl,by kernel_rfl⟩).trans ?_⟩
  rotate_left
  ·unfold Bu
   simp only[List.mapM_cons,List.mapM_nil,FH,π.sB,List.drop_zero,List.drop_succ_cons,List.take_succ_cons,List.take_zero,IS,π.Mm D e h];rfl
theorem ar.Pv(π:ar δ)(D:Nat)(p:Int)(hp:(Lit.int O p).wf=true)(b:Bool)(e:Fin 8->Sp.Iv)(h:∀k,xq π (e k)):∃μ,prog.keyLits (D+1+1+1+1+1) (π.ix 365 356) (.int O p :: .bool b :: Bu π e)=Y μ:=by
 cases δ
 all_goals
  dsimp only [ar.ix,ar.kd]at *
  obtain⟨μ,hL⟩:=π.Hg D b e h;unfold Program.keyLits
  first | rw[underlying365,π.vC] | rw[underlying356,π.vC]
  refine⟨?_,(if_pos ⟨rfl,by kernel_rfl⟩).trans ?_⟩
  rotate_left
  ·unfold Bu at hL ⊢
   simp only[List.mapM_cons,List.mapM_nil,I1,π.rR,List.drop_zero,List.drop_succ_cons,List.take_succ_cons,List.take_zero,Nk _ p hp,hL];rfl
theorem vI:10<=prog.types.size:=by exact Nat.le_of_ble_eq_true (by kernel_rfl)
theorem LR{π:ar δ}(hs:Sp.Wf (Kr π) s):∃l,keyOf prog (π.ix 220 203) (.agg (π.aI s))=Y l:=by
 cases δ
 all_goals
  dsimp only [ar.ix,ar.kd]at *
  obtain⟨b,e,h1,h2⟩:=π.KY hs;obtain⟨D,hD⟩:∃D,prog.types.size+1=D+1+1+1+1:=⟨prog.types.size - 3,by have:=vI;omega⟩;obtain⟨μ,hL⟩:=π.Hg D b e h2;unfold keyOf
  first | rw[underlying220,hD] | rw[underlying203,hD]
  have hk:prog.keyType (π.ix 220 203)=true:=by kernel_rfl
  have hf:(Value.agg (π.aI s)).formed prog (π.ix 220 203)=true:=by simp only[Value.formed,underlying220,underlying203,π.rR,π.aD];rfl
  refine⟨?_,(if_pos (by rw[hk,hf];rfl)).trans ?_⟩
  rotate_left
  ·show Option.map _ (prog.keyLits _ _ (π.aI s).toList)=_
   rw[h1,hL];rfl
theorem ar.mc(π:ar δ)(p:Int)(s:ST):(π.nt p s).toList=I O p :: (π.aI s).toList:=by simp[ar.nt]
theorem Fa{π:ar δ}(hs:Sp.Wf (Kr π) s){p:Int}(hp:0<=p/\p<=1000000):∃l,keyOf prog (π.ix 365 356) (.agg (π.nt p s))=Y l:=by
 cases δ
 all_goals
  dsimp only [ar.ix,ar.kd]at *
  obtain⟨b,e,h1,h2⟩:=π.KY hs;obtain⟨D,hD⟩:∃D,prog.types.size+1=D+1+1+1+1+1:=⟨prog.types.size - 4,by have:=vI;omega⟩;have e1:IntKind.i64.min=-9223372036854775808:=rfl;have e2:IntKind.i64.max=9223372036854775807:=rfl;obtain⟨μ,hL⟩:=π.Pv D p (by simp only[Lit.wf,e1,e2,Bool.and_eq_true,decide_eq_true_eq];omega) b e h2;unfold keyOf
  first | rw[underlying365,hD] | rw[underlying356,hD]
  have hk:prog.keyType (π.ix 365 356)=true:=by kernel_rfl
  have hz:(π.nt p s).size=18:=by rw[<-Array.length_toList,π.mc,List.length_cons,π.dj]
  have hf:(Value.agg (π.nt p s)).formed prog (π.ix 365 356)=true:=by simp only[Value.formed,underlying365,underlying356,π.vC,hz];rfl
  refine⟨?_,(if_pos (by rw[hk,hf];rfl)).trans ?_⟩
  rotate_left
  ·show Option.map _ (prog.keyLits _ _ (π.nt p s).toList)=_
   rw[π.mc,h1,hL];rfl
theorem ar.SH(π:ar δ):WideMaps.KeyLaw prog (π.ix 220 203):=by cases δ<;>exact deep_law (m:=8) (by omega) (by kernel_rfl) (by kernel_rfl) (by first | rw[underlying220] | rw[underlying203])
theorem ar.qy(π:ar δ):WideMaps.KeyLaw prog (π.ix 365 356):=by cases δ<;>exact deep_law (m:=8) (by omega) (by kernel_rfl) (by kernel_rfl) (by first | rw[underlying365] | rw[underlying356])
theorem QM{π:ar δ}(hs:Sp.Wf (Kr π) s)(ht:Sp.Wf (Kr π) t)(w:Wd):(Op.equal (π.ix 220 203) (J (π.aI s)) (J (π.aI t))).run prog w=.ok (FQ (Dm π) s t) w:=by
 cases δ
 all_goals
  dsimp only [ar.ix,ar.kd]at *
  obtain⟨l,hl⟩:=LR hs;obtain⟨l',Ip⟩:=LR ht;obtain⟨r,hr,aas⟩:=run_equal_deep w (m:=8) (by omega) (by kernel_rfl) (by first | rw[underlying220] | rw[underlying203]) hl Ip;rw[hr];congr 1;have h2:r=true↔s=t:=by
   rw[aas];constructor
   ·intro e
    subst e;have:=π.SH.inj hl Ip;injection this with this
    exact π.Hs this
   ·intro e
    subst e;rw[hl]at Ip;injection Ip
  have h3:=mU (Dm π) s t;cases hc:FQ (Dm π) s t with
  | true=>exact h2.2 (h3.1 hc)
  | false =>
   cases r with
   | false=>rfl
   | true=>rw[h3.2 (h2.1 rfl)]at hc;cases hc
end
end W
end
section
namespace W
variable {δ : Bool}{π : ar δ}
theorem ar.Pb(π:ar δ)(s:ST):(prog.info? (π.ix 220 203)).map (·.size)=Y (π.aI s).toList.length:=by rw[eh,π.dj]
structure Bp(π:ar δ)(C:Cx)(F:Fd)(wa xa:Array Value)(k:Nat)(W:Wd):Prop where
 o:W.heap[k]?=Y (L wa (π.ix 217 200))
 x:W.heap[k+1]?=Y (L xa (π.ix 220 203))
 f:W.heap[C.fb]?=Y (L #[Z (Y ⟨C.gf,0,M⟩) F.1.length C.cf,Z (Y ⟨C.gs,0,M⟩) F.2.length C.cs] (π.ix 215 198))
theorem aK.SP{C:Cx}{π:ar δ}{T:eQ}{F:Fd}{w:Wd}(h:aK C π T F w){p:Nat}{f u:ST}(hp:F.1[p]?=Y f){s:ST}(hu:Sp.jn (Dm π) f s=u)(hs:Sp.Wf (Kr π) s) :
  aK C π T (Sp.tell (Dm π) F (pI (Dm π) (p:Int) s)) (w.setCells C.gf (p*17) (π.aI u).toList)/\au C w (w.setCells C.gf (p*17) (π.aI u).toList):=by
 cases s with
 | some e=>exact h.ay hp hu (hs e rfl)
 | none =>
  have DW:u=f:=by rw[<-hu];cases f<;>rfl
  subst DW;obtain⟨n1,n2,n3,n4,n5,n6⟩:=h.ne;obtain⟨es,cl,hm,hE⟩:=h.memo;have hk:au C w (w.setCells C.gf (p*17) (π.aI u).toList) :=
   ⟨aq h.bgf _ _ _ _ (Below.refl _ _),fun k _ k1 _ _=>aj _ _ _ _ k1⟩
  refine⟨⟨(aj _ _ _ _ n1).trans h.BX,?_,(aj _ _ _ _ (Ne.symm n3)).trans h.vo,⟨es,cl,(aj _ _ _ _ n4).trans hm,hE⟩,h.does.below hk.below,h.turns.below hk.below h.big,h.big,h.bfb,h.bgf,h.bgs,h.bm,h.wfF⟩,hk⟩;have J6:p<F.1.length:=(List.getElem?_eq_some_iff.1 hp).1;obtain⟨c',h1,h2,h3,h4⟩:=fP (π.aI u).toList (p*17) w (π.cO F.1).toArray h.BK (by rw[π.dj,List.size_toArray];unfold ar.cO;rw[fw π.dj];have:(p+1)*17<=F.1.length*17:=Nat.mul_le_mul_right _ J6;omega)
  rw[h1];have e:c'=(π.cO F.1).toArray:=by
   refine Array.ext_getElem? fun i=>?_
   by_cases hi:p*17<=i/\i<p*17+17
   ·have h5:=h3 (i - p*17) (by rw[π.dj];omega)
    rw[show p*17+(i - p*17)=i by omega]at h5;rw[h5,List.getElem?_toArray];have h6:(F.1.flatMap fun s=>(π.aI s).toList)[p*17+(i - p*17)]?=(π.aI u).toList[i - p*17]?:=gX π.dj F.1 p u (i - p*17) hp (by omega);rw[show p*17+(i - p*17)=i by omega]at h6;exact h6.symm
   ·rw[h4 i (by rw[π.dj];omega)]
  rw[e];rfl
theorem FC(C:Cx)(π:ar δ)(T:eQ)(F:Fd)(w:Wd)(h:aK C π T F w)(p:Nat)(f u:ST)(hp:F.1[p]?=Y f)(s:ST)(hu:Sp.jn (Dm π) f s=u)(he:Sp.Wf (Kr π) s) :
  Calls prog (π.ix 84 80) #[J (π.wk C true),I O (p:Nat),J (π.aI s)] w fun r w'=>r=υ (φ #[])/\aK C π T (Sp.tell (Dm π) F (pI (Dm π) (p:Int) s)) w'/\au C w w':=by
 cases δ
 all_goals
  dsimp only [ar.ix,ar.kd]at *
  have J6:p<F.1.length:=(List.getElem?_eq_some_iff.1 hp).1;have aaM:((p:Nat):Int)<((F.1.length:Nat):Int):=by omega
  have uB:(π.wk C true)[7]?=Y (ρ (Y ⟨C.fb,0,M⟩)):=rfl;have ef:(π.wk C true).size=8:=rfl;have HJ:Hid (∀W,fL C.base π C.dv W->Calls _ _ _ W _):=fun W hd=>o0 (B:=C.base) (π:=π) C.dv C.bY C.al C.narrow C.ai C.th C.m (Y ⟨C.fb,0,M⟩) f s u W hd hu (h.wfF f (List.mem_of_getElem? hp)) he
  have Qm:π.yi C.dv C.bY C.al C.narrow C.ai C.th C.m (Y ⟨C.fb,0,M⟩)=π.wk C true:=rfl;rw[Qm]at HJ;clear Qm;generalize π.wk C true=wa at *;have ee:(π.aI s).size=17:=π.aD _;have aaG:Hid (_=_):=π.Pb s;generalize nJ:π.aI s=xa at *;have b0:ω w ((w.alloc (L wa (π.ix 217 200))).alloc (L xa (π.ix 220 203))).drew:=((below_alloc1 w _).alloc (by simp) _).drew;have HA:Hid (aK C π T F ((w.alloc (L wa (π.ix 217 200))).alloc (L xa (π.ix 220 203))).drew):=h.call b0;have HK:Hid (au C w ((w.alloc (L wa (π.ix 217 200))).alloc (L xa (π.ix 220 203))).drew):=au.aB b0 h.le;have H0:Hid (Bp π C F wa xa w.heap.size ((w.alloc (L wa (π.ix 217 200))).alloc (L xa (π.ix 220 203))).drew):=⟨heap_alloc_old (heap_alloc_new w _),by rw[show w.heap.size+1=(w.alloc (L wa (π.ix 217 200))).heap.size by simp];exact heap_alloc_new _ _,HA.BX⟩;have d7:=cell_of H0.o 7 uB;have d7':((w.alloc (L wa (π.ix 217 200))).alloc (L xa (π.ix 220 203))).cell? ⟨w.heap.size,7,M⟩=Y (ρ (Y ⟨C.fb,0,M⟩)):=d7;have HN:=hid h;have HP:=hid hp;have HU:=hid hu;have cR:=h.lt;have dF:=h.ne;clear h hp hu b0 d7;obtain⟨o,ho⟩:∃o,p*17=o:=⟨_,rfl⟩;have HR:Hid (∀W,aK C π T F W->W.rangeAt C.gf o (π.aI f).toList/\W.there C.gf o 17/\(aK C π T (Sp.tell (Dm π) F (pI (Dm π) (p:Int) s)) (W.setCells C.gf o (π.aI u).toList)/\au C W (W.setCells C.gf o (π.aI u).toList))):=fun W hW=>by rw[<-ho];exact⟨hW.fact HP.out,hW.Ja J6,hW.SP HP.out HU.out he⟩
  first | go_enter func84,ntmps84 | go_enter func80,ntmps80
  go_wp2_with fail;generalize (w.alloc (L wa (π.ix 217 200))).alloc (L xa (π.ix 220 203))=W at *;refine wp_region_held_drew (S:=fun w':Wd=>Bp π C F wa xa w.heap.size w') (by kernel_rfl) H0.out (fun aa=>?_);refine mB 15 rfl (π.mv rfl _ rfl _ _ rfl (xa) (fun w' h=>aP h.x) ee) aa ?_;refine mB 6 rfl (π.qq rfl _ rfl _ _ rfl (wa) (fun w' h=>aP h.o) ef) aa ?_;refine tq 0 (ρ (Y ⟨w.heap.size,7,M⟩)) aa ?_;refine tk 1 (ρ (Y ⟨C.fb,0,M⟩)) rfl (fun w' h=>by have d:=cell_of h.o 7 uB;go_simp) aa ?_;refine tq 2 (ρ (Y ⟨C.fb,0,M⟩)) aa ?_;refine tq 3 (ρ (Y ⟨C.fb,0,M⟩)) aa ?_;refine tk 4 (Z (Y ⟨C.gf,0,M⟩) F.1.length C.cf) rfl (fun w' h=>by have d:=cell_of h.f 0 rfl;go_simp) aa ?_;refine tq 5 (I O (p:Nat)) aa ?_;refine tq 7 (ρ (Y ⟨w.heap.size,7,M⟩)) aa ?_;refine tk 8 (ρ (Y ⟨C.fb,0,M⟩)) rfl (fun w' h=>by have d:=cell_of h.o 7 uB;go_simp) aa ?_;refine tq 9 (ρ (Y ⟨C.fb,0,M⟩)) aa ?_;refine tq 10 (ρ (Y ⟨C.fb,0,M⟩)) aa ?_;refine tk 11 (Z (Y ⟨C.gf,0,M⟩) F.1.length C.cf) rfl (fun w' h=>by have d:=cell_of h.f 0 rfl;go_simp) aa ?_;refine tq 12 (I O (p:Nat)) aa ?_;refine tq 13 (ρ (Y ⟨C.gf,o,M⟩)) aa ?_;refine bD 14 fun K hK=>?_
  simp only[bp,fB];rw[if_pos (by rfl)];refine wX (π:=π) _ rfl rfl (HR.out _ HA.out).1 (π.aD f) ?_;simp only[Act.put];refine hK.out _ _ aa (fun aa=>?_);clear hK K;refine bD 16 fun K hK=>?_
  simp only[bp,fB];go_simp;refine(HJ.out _ HA.does).mono ?_;rintro r w1⟨rfl,b1⟩;go_wp2_with fail;have nZ:Hid (aK C π T F w1):=HA.call b1;have mN:Hid (au C w w1):=HK.more b1 HN.le;have iC:Bp π C F wa xa w.heap.size w1:=⟨(b1.block _ (ad aa.o)).trans aa.o,(b1.block _ (ad aa.x)).trans aa.x,(b1.block _ (ad aa.f)).trans aa.f⟩;refine hK.out _ _ iC (fun aa=>?_);clear hK K iC b1;refine tq 17 (ρ (Y ⟨C.gf,o,M⟩)) aa ?_;refine bD 18 fun K hK=>?_
  simp only[bp,fB];rw[if_pos (by rfl)];refine lk (π:=π) _ _ rfl rfl rfl (HR.out _ nZ.out).2.1 (π.aD u) (π.aV u) ?_;refine hK.out _ _ ⟨(aj _ _ _ _ (by omega)).trans aa.o,(aj _ _ _ _ (by omega)).trans aa.x,(aj _ _ _ _ dF.1).trans aa.f⟩ (fun _=>?_);clear hK K;refine wpAnyH_done (by kernel_rfl) ?_ _;have R:Hid (_/\_):=(HR.out _ nZ.out).2.2;go_wp2_with fail;go_returns;exact⟨rfl,R.1,mN.trans R.2⟩
theorem Dr(C:Cx)(p:Int)(s:ST)(w:Wd) :
  Calls prog (π.ix 84 80) #[J (π.wk C false),I O p,J (π.aI s)] w fun e w'=>e=υ (φ #[])/\ω w w':=by
 cases δ
 all_goals
  dsimp only [ar.ix,ar.kd]at *
  have uB:(π.wk C false)[7]?=Y (ρ M):=rfl;generalize π.wk C false=wa at *;generalize π.aI s=xa at *;have hb:((w.alloc (L wa (π.ix 217 200))).alloc (L xa (π.ix 220 203))).heap[w.heap.size]?=Y (L wa (π.ix 217 200)):=heap_alloc_old (heap_alloc_new w _);have d7:=cell_of hb 7 uB;clear hb
  first | go_enter func84,ntmps84 | go_enter func80,ntmps80
  go_wp2_with fail;go_returns;exact⟨rfl,by go_grown⟩
theorem nE(C:Cx)(π:ar δ)(T:eQ)(F:Fd)(b:Bool)(w:Wd)(h:aK C π T F w)(p:Int)(s:ST)(hs:Sp.Wf (Kr π) s)(hr:b=true->0<=p/\p.toNat<F.1.length) :
  Calls prog (π.ix 84 80) #[J (π.wk C b),I O p,J (π.aI s)] w fun r w'=>r=υ (φ #[])/\aK C π T (told π b F (pI (Dm π) p s)) w'/\au C w w':=by
 cases b with
 | false =>refine(Dr C p s w).mono ?_;rintro e w'⟨rfl,k⟩;exact⟨rfl,h.call k,au.aB k h.le⟩
 | true =>obtain⟨h1,h2⟩:=hr rfl;obtain⟨n,rfl⟩:∃n:Nat,p=(n:Int):=⟨p.toNat,by omega⟩;exact FC C π T F w h n _ _ (List.getElem?_eq_getElem (by simpa using h2)) s rfl hs
theorem DC(C:Cx)(π:ar δ)(T:eQ)(F:Fd)(b:Bool)(w:Wd)(h:aK C π T F w)(p:Int)(e:Fin 8->Sp.Iv)(he:∀k,π.Wv (e k))(hr:cV b F [.ay p e]) :
  Calls prog (π.ix 84 80) #[J (π.wk C b),I O p,J (π.aI (Y e))] w fun r w'=>r=υ (φ #[])/\aK C π T (told π b F [.ay p e]) w'/\au C w w' :=
 nE C π T F b w h p (Y e) (Sp.Wf.some he) fun hb=>hr hb _ (List.mem_singleton.2 rfl)
end W
end
section
namespace W
variable {δ : Bool}{π : ar δ}
section
variable{j cl m:Nat}
variable{p p':Int}
variable{s t:ST}
variable{T:eQ}
variable{F:Fd}
variable{w:Wd}
theorem Eu:(prog.info? (π.ix 365 356)).map (·.size)=Y 18:=by cases δ<;>kernel_rfl
theorem SD:(prog.info? (π.ix 367 358)).map (·.size)=Y 18:=by cases δ<;>kernel_rfl
theorem ar.IW(π:ar δ)(p:Int)(s:ST):(π.nt p s).size=18:=by rw[<-Array.length_toList,π.mc,List.length_cons,π.dj]
theorem ar.LX(π:ar δ)(p:Int)(s:ST):(π.nt p s).all (·.oneCell')=true:=by
 have h:=π.aV s;rw[Array.all_eq_true_iff_forall_mem]at h ⊢;intro x hx
 rcases Array.mem_append.1 hx with hx | hx
 ·simp at hx;subst hx;rfl
 ·exact h x hx
theorem ar.IN(π:ar δ)(t:ST)(d:Bool):(π.kQ t d).size=18:=by unfold ar.kQ;rw[Array.size_push,π.aD]
theorem ar.Ni(π:ar δ)(t:ST)(d:Bool):(π.kQ t d).all (·.oneCell')=true:=by
 have h:=π.aV t;rw[Array.all_eq_true_iff_forall_mem]at h ⊢;intro x hx
 rcases Array.mem_push.1 hx with hx | hx
 ·exact h x hx
 ·subst hx;rfl
theorem ar.JJ(π:ar δ)(t:ST)(d:Bool):(π.kQ t d)[17]?=Y (U d):=by unfold ar.kQ;rw[Array.getElem?_push,π.aD];rfl
theorem ar.Fw(π:ar δ)(t:ST)(d:Bool)(hj:j<17):(π.kQ t d)[j]?=(π.aI t)[j]?:=by unfold ar.kQ;rw[Array.getElem?_push,π.aD,if_neg (by omega)]
theorem QQ{xa:Array Value}(h:xa.size=17):∃a0 a1 a2 a3 a4 a5 a6 a7 a8 a9 Oy Wr a12 WA XS Xh Wm,xa=#[a0,a1,a2,a3,a4,a5,a6,a7,a8,a9,Oy,Wr,a12,WA,XS,Xh,Wm]:=by
 rcases xa with⟨l⟩
 match l,h with
 | [a0,a1,a2,a3,a4,a5,a6,a7,a8,a9,Oy,Wr,a12,WA,XS,Xh,Wm],_=>exact⟨a0,a1,a2,a3,a4,a5,a6,a7,a8,a9,Oy,Wr,a12,WA,XS,Xh,Wm,rfl⟩
theorem Ls(p:Int)(s:ST)(w:Wd):(Instr.build (π.ix 365 356) #[(0,I O p),(1,J (π.aI s))]).run prog w=.ok (J (π.nt p s)) w:=by unfold ar.nt;obtain⟨a0,a1,a2,a3,a4,a5,a6,a7,a8,a9,Oy,Wr,a12,WA,XS,Xh,Wm,e⟩:=QQ (π.aD s);rw[e];cases δ<;>kernel_rfl
theorem LN(t:ST)(d:Bool)(w:Wd):(Instr.build (π.ix 367 358) #[(0,J (π.aI t)),(1,U d)]).run prog w=.ok (J (π.kQ t d)) w:=by unfold ar.kQ;obtain⟨a0,a1,a2,a3,a4,a5,a6,a7,a8,a9,Oy,Wr,a12,WA,XS,Xh,Wm,e⟩:=QQ (π.aD t);rw[e];cases δ<;>kernel_rfl
theorem ar.Lq(π:ar δ){s':ST}(h:(Value.agg (π.nt p s))=J (π.nt p' s')):p=p'/\s=s':=by
 injection h with h
 have h2:=congrArg Array.toList h;rw[π.mc,π.mc]at h2;injection h2 with h3 h4
 injection h3 with _ h3
 exact⟨h3,π.Hs (Array.toList_inj.1 h4)⟩
abbrev PR(π:ar δ):TypeId:=(π.ix 211 194)
theorem yZ{π:ar δ}{es:Array MapEntry}(hE:∀x∈es.toList,oT π T F x):∀e∈es.toList,∃l,keyOf prog (π.ix 365 356) e.key=Y l:=fun e he=>by obtain⟨p,s,t,d,h1,h2,h3,h4,h5,h6⟩:=hE e he;rw[h1];exact Fa h3 h4
theorem I0{π:ar δ}{es:Array MapEntry}(hm:w.heap[m]?=Y (.map es cl))(hE:∀x∈es.toList,oT π T F x)(hs:Sp.Wf (Kr π) s)(hp:0<=p/\p<=1000000) :
  ∃t d ok,(Instr.lookup (PR π) (.map (Y m)) (.agg (π.nt p s)) true).run prog w=.ok (.tuple #[.agg (π.kQ t d),.bool ok]) w/\(ok=true->(T p s).2=t/\(d=true->iU (Kr π) F (T p s).1)):=by
 cases δ
 all_goals
  try dsimp only [ar.ix,ar.kd]at *
  obtain⟨l,hl⟩:=Fa hs hp
  rcases π.qy.find w hl es.toList (yZ hE) with⟨h1,h2⟩ | ⟨j,e0,h1,h2,h3⟩
  ·refine⟨M,false,false,?_,fun h=>by cases h⟩
   simp[Instr.lookup,run_underlying underlying211,run_underlying underlying194,MapKept.run_getObj_map hm,π.qy.check w _ hl,h1,Result.andThen];rfl
  ·obtain⟨p',s',t,d,k1,k2,k3,k4,k5,k6⟩:=hE e0 (List.mem_of_getElem? h2)
   rw[h3]at k1;obtain⟨rfl,rfl⟩:=π.Lq k1;refine⟨t,d,true,?_,fun _=>⟨k5,k6⟩⟩;simp[Instr.lookup,run_underlying underlying211,run_underlying underlying194,MapKept.run_getObj_map hm,π.qy.check w _ hl,h1,k2,Result.andThen]
theorem Nd{π:ar δ}{es:Array MapEntry}(hm:w.heap[m]?=Y (.map es cl))(hE:∀x∈es.toList,oT π T F x)(hs:Sp.Wf (Kr π) s)(hp:0<=p/\p<=1000000){d:Bool}(h1:(T p s).2=t)(h2:d=true->iU (Kr π) F (T p s).1) :
  ∃es' cl',(Instr.mapUpdate (PR π) (.map (Y m)) (.agg (π.nt p s)) (.agg (π.kQ t d))).run prog w=.ok () { w with heap:=w.heap.setIfInBounds m (.map es' cl') }/\∀x∈es'.toList,oT π T F x:=by
 cases δ
 all_goals
  try dsimp only [ar.ix,ar.kd]at *
  obtain⟨l,hl⟩:=Fa hs hp;have pL:∀born,oT π T F ⟨.agg (π.nt p s),.agg (π.kQ t d),born⟩:=fun born=>⟨p,s,t,d,rfl,rfl,hs,hp,h1,h2⟩
  rcases π.qy.find w hl es.toList (yZ hE) with⟨k1,_⟩ | ⟨j,e0,k1,k2,k3⟩
  ·refine⟨es.push ⟨.agg (π.nt p s),.agg (π.kQ t d),cl⟩,cl+1,?_,?_⟩
   ·simp[Instr.mapUpdate,run_underlying underlying211,run_underlying underlying194,MapKept.run_getObj_map hm,π.qy.check w false hl,k1,MapKept.run_setObj_map _ hm,Result.andThen]
   ·intro x hx
    simp only[Array.toList_push,List.mem_append,List.mem_singleton]at hx
    rcases hx with hx | rfl
    ·exact hE x hx
    ·exact pL cl
  ·have hj:es[j]?=Y e0:=by simpa using k2
   refine⟨es.modify j (fun e'=>{ e' with key:=.agg (π.nt p s),val:=.agg (π.kQ t d) }),cl,?_,?_⟩
   ·simp[Instr.mapUpdate,run_underlying underlying211,run_underlying underlying194,MapKept.run_getObj_map hm,π.qy.check w false hl,k1,hj,k3,π.qy.stays w hl,MapKept.run_setObj_map _ hm,Result.andThen]
   ·intro x hx
    rw[Array.toList_modify]at hx;obtain⟨i,hi⟩:=List.getElem?_of_mem hx;obtain⟨y,hy,rfl⟩:=iE hi;split
    ·exact pL _
    ·exact hE y (List.mem_of_getElem? hy)
theorem aK.OS{C:Cx}{π:ar δ}(h:aK C π T F w){es:Array MapEntry}(hE:∀x∈es.toList,oT π T F x) :
  aK C π T F { w with heap:=w.heap.setIfInBounds C.m (.map es cl) }/\au C w { w with heap:=w.heap.setIfInBounds C.m (.map es cl) }:=by
 obtain⟨n1,n2,n3,n4,n5,n6⟩:=h.ne;have hl:=h.lt;have hk:au C w { w with heap:=w.heap.setIfInBounds C.m (.map es cl) }:=by
  refine⟨⟨rfl,rfl,rfl,by simp,fun k hk=>?_⟩,fun k hk _ _ k3=>?_⟩
  ·have:=h.bm
   exact Array.getElem?_setIfInBounds_ne (by omega)
  ·exact Array.getElem?_setIfInBounds_ne (Ne.symm k3)
 refine⟨⟨?_,?_,?_,⟨es,cl,?_,hE⟩,h.does.below hk.below,h.turns.below hk.below h.big,h.big,h.bfb,h.bgf,h.bgs,h.bm,h.wfF⟩,hk⟩
 ·exact(Array.getElem?_setIfInBounds_ne (Ne.symm n6)).trans h.BX
 ·exact(Array.getElem?_setIfInBounds_ne n4).trans h.BK
 ·exact(Array.getElem?_setIfInBounds_ne n5).trans h.vo
 ·exact Array.getElem?_setIfInBounds_self_of_lt hl.2.2.2
end
end W
end
end Go.Proofs.YtiopfihjmkfdmaaGreatDoor
