import Derived.Test.YtiopfihjmkfdmabGreatDoorC14
import Derived.Test.YtiopfihjmkfdmabGreatDoorC30
import Derived.Laws.MakeOwn
namespace Go.Proofs.YtiopfihjmkfdmabGreatDoor
open Go.Value renaming int->I,agg->J,bool->U,pointer->ρ,iface->σ,slice->Z,tuple->φ
open Go.IntKind renaming i64->O
open Option renaming some->Y,none->M
open Go.Obj renaming cells->L
open Go.Ending renaming returned->υ
open Go.Proofs.Tryz Sp
open Go.RowKit
set_option maxRecDepth 100000
set_option maxHeartbeats 16000000
section
namespace W
variable {E: Bool}{G: aw E}
section
variable{w W W':Wd}
variable{xa va c d:Array Value}
variable{l:List (Int×Int)}
variable{j b o B:Nat}
variable{ops:Array Oper}
variable{rest:List Oper}
variable{op:Oper}
variable{a:Act}
abbrev CK(r:Bool)(l:List (Int×Int)):Array Value:=MY (λv:Int×Int=>I O v.1) (λv:Int×Int=>I O v.2) r l
def zr:List (Int×Int):=List.replicate 8 (0,0)
def EA(s:ST):Bool×List (Int×Int):=match s with
 |none=>(false,zr)
 |some e=>(true,List.ofFn λk=>oU (e k))
def uH(s:ST):Array Value:=CK (EA s).1 (EA s).2
theorem Lg(s:ST):(EA s).2.length=8:=by cases s<;>simp[EA,zr]
theorem tM(s:ST):(uH s).size=17:=Fg _ _ (Lg s)
theorem JG(s:ST):(uH s).all (·.oneCell')=true:=JE _ _ (λ_=>rfl) (λ_=>rfl) _ _
theorem CO:(prog.info? 53).map (·.size)=Y 17:=Ã
theorem Wk:(prog.info? (G.ix 172 155)).map (·.size)=Y 16:=by cases E<;>kernel_rfl
def XF(G:aw E)(e:Fin 8->Sp.Iv):Array Value:=(flat (λv:Sp.Iv=>I G.kd v.a) (λv:Sp.Iv=>I G.kd v.b) (List.ofFn e)).toArray
theorem RT(e:Fin 8->Sp.Iv)(w:Wd):∀(j:Nat) (hj:j<8),(Instr.index (G.ix 172 155) (J (XF G e)) (I O (j:Nat))).run prog w=.ok (J #[I G.kd (e ⟨j,hj⟩).a,I G.kd (e ⟨j,hj⟩).b]) w
 |0,_=>by cases E<;>kernel_rfl
 |1,_=>by cases E<;>kernel_rfl
 |2,_=>by cases E<;>kernel_rfl
 |3,_=>by cases E<;>kernel_rfl
 |4,_=>by cases E<;>kernel_rfl
 |5,_=>by cases E<;>kernel_rfl
 |6,_=>by cases E<;>kernel_rfl
 |7,_=>by cases E<;>kernel_rfl
structure Am(G:aw E)(w:Wd)(xa:Array Value)(l:List (Int×Int))(W:Wd):Prop where
 s:W.heap[w.heap.size]?=Y (L xa (G.ix 174 157))
 z:W.heap[w.heap.size+1]?=Y (L (CK false zr) 53)
 x:W.heap[w.heap.size+1+1]?=Y (L (CK true l) 53)
 b:ω w W
theorem Am.call(h:Am G w xa l W)(k:ω W W'):Am G w xa l W':=
 ⟨(k.block _ (ah h.s)).trans h.s,(k.block _ (ah h.z)).trans h.z,(k.block _ (ah h.x)).trans h.x,h.b.trans (k.mono h.b.size)⟩
theorem Am.set(h:Am G w xa l W)(hj:j<l.length)(v:Int×Int):Am G w xa (l.set j v) ((W.setCell ⟨w.heap.size+1+1,1+j*2,M⟩ (I O v.1)).setCell ⟨w.heap.size+1+1,1+j*2+1,M⟩ (I O v.2)):=by
 have e1:w.heap.size≠w.heap.size+1+1:=À;have e2:w.heap.size+1≠w.heap.size+1+1:=À;refine⟨?_,?_,?_,(h.b.setCell (p:=⟨w.heap.size+1+1,1+j*2,M⟩) (by show w.heap.size<=w.heap.size+1+1;omega) _).setCell (p:=⟨w.heap.size+1+1,1+j*2+1,M⟩) (by show w.heap.size<=w.heap.size+1+1;omega) _⟩
 .rw[Æ _ _ _ _ e1,Æ _ _ _ _ e1];exact h.s
 .rw[Æ _ _ _ _ e2,Æ _ _ _ _ e2];exact h.z
 .rw[ai (ai h.x (1+j*2) (I O v.1)) (1+j*2+1) (I O v.2)]
  congr 2;exact J1 (λv:Int×Int=>I O v.1) (λv:Int×Int=>I O v.2) v hj
def jV(e:Fin 8->Sp.Iv)(j:Nat):List (Int×Int):=(List.ofFn λk=>oU (e k)).take j++List.replicate (8-j) (0,0)
theorem Ba(e:Fin 8->Sp.Iv)(h:j<=8):(jV e j).length=8:=by unfold jV;simp;omega
theorem MH(e:Fin 8->Sp.Iv)(h:j<8):(jV e j).set j (oU (e ⟨j,h⟩))=jV e (j+1):=by
 have hl:((List.ofFn λk=>oU (e k)).take j).length=j:=by simp;omega
 have hg:(List.ofFn λk=>oU (e k))[j]?=Y (oU (e ⟨j,h⟩)):=by rw[â,dif_pos h]
 have hk:=Í.1 hg;unfold jV;rw[List.set_append_right _ _ À,hl,Nat.sub_self,show 8-j=(8-(j+1))+1 by omega,List.replicate_succ,List.set_cons_zero,ä hk.1,hk.2,Ô];rfl
theorem Ms(e:Fin 8->Sp.Iv):jV e 8=List.ofFn λk=>oU (e k):=by unfold jV;rw[List.take_of_length_le Ä];simp
theorem On{e:Fin 8->Sp.Iv}(h:Bk w b (G.aQ (Y e)) (G.ix 174 157)):w.rangeAt b 1 (XF G e).toList:=λj v hv=>by refine cell_of h _ ?_;have:(G.aQ (Y e)).toList=U true::(XF G e).toList:=rfl;rw[<-Ý,this,Nat.add_comm 1 j,List.getElem?_cons_succ];exact hv
theorem VT{Q:Exit->Act->Wd->Prop}(sE:op.guard=M)(x:Operand)(ho:op.op=.load (G.ix 172 155) x)(hx:a.eval x=ρ (Y ⟨b,1,M⟩))(h:w.rangeAt b 1 va.toList)(hc:va.size=16)
  (k:wpList prog ops Q rest (a.put op.dst (J va)) w):wpList prog ops Q (op::rest) a w:=by
 cases E
 all_goals
  try dsimp only[aw.ix,aw.kd]at*
  refine wpList_load_mid sE (G.ix 172 155) x ho b 1 hx va.toList _ h (by first|exact underlying172|exact underlying155) rfl (by rw[Wk];simp[hc]) ?_;simpa using k
theorem Vm{Q:Exit->Act->Wd->Prop}(sE:op.guard=M)(x:Operand)(ho:op.op=.load 53 x)(hx:a.eval x=ρ (Y ⟨b,0,M⟩))(h:Bk w b c 53)(hc:c.size=17)
  (k:wpList prog ops Q rest (a.put op.dst (J c)) w):wpList prog ops Q (op::rest) a w:=by
 refine wpList_load_mid sE 53 x ho b 0 hx c.toList _ (aT h) underlying53 rfl (by rw[CO];simp[hc]) ?_;simpa using k
theorem PU{Q:Exit->Act->Wd->Prop}(sE:op.guard=M)(x y:Operand)(ho:op.op=.store 53 x y)(hx:a.eval x=ρ (Y ⟨b,o,M⟩))(hy:a.eval y=J d)(h:w.there b o 17)(hd:d.size=17)(h1:d.all (·.oneCell')=true)
  (k:wpList prog ops Q rest (a.put op.dst undef) (w.setCells b o d.toList)):wpList prog ops Q (op::rest) a w:=
 wpList_plain sE λ_ hK=>wp_store_mid 53 x y ho b o d hx hy (by rw[hd];exact h) (by rw[CO,hd]) h1 (hK _ _ k)
theorem NZ{fr:Nat × Nat}(h:w.heap[b]?=Y (L c 53 fr))(hc:c.size=17) :
  (loadVar 53 ⟨b,0,M⟩).run prog w=.ok (J c) w:=by
 have:=run_loadVar_mid (P:=prog) w b 0 53 c.toList _ (λj v hv=>by rw[Nat.zero_add];exact cell_of h j (by simpa using hv)) underlying53 rfl (by rw[CO];simp[hc]);simpa using this
theorem Gw{fn:Func}{a:Tmp}(Ja:fn.results=#[.cell a 53])(tmps:Array Value)(w:Wd)(ht:tmps.getD a undef=ρ (Y ⟨b,0,M⟩))(h:Bk w b c 53)(hc:c.size=17) :
  (results fn tmps).run prog w=.ok (J c) w:=by
 have hl:=NZ h hc;have TF:tmps[a]?.getD undef=ρ (Y ⟨b,0,M⟩):=by rw[<-ht];simp
 unfold results;rw[Ja];simp[asAddr,TF,hl]
theorem Hu{G:aw E}(dv:Value)(e:Fin 8->Sp.Iv)(w:Wd)(hd:fU B G dv w)(he:∀k,G.Wv (e k)) :
  Calls prog (G.ix 83 80) #[σ (G.ix 92 87) dv,J (G.aQ (Y e))] w λr w'=>r=υ (J (uH (Y e)))/\ω w w':=by
 cases E
 all_goals
  try dsimp only[aw.ix,aw.kd]at*
  have HTL:Hid (∀W j (hj:j<8),ω w W->Calls _ _ _ W _):=λW j hj hb=>YZ (B:=B) (G:=G) (dv:=dv) (hd.below (hb.mono hd.size)) (he ⟨j,hj⟩)
  have Zn:Hid (∀j (hj:j<8) w,_):=λj hj w=>RT (G:=G) e w j hj
  have v16:(XF G e).size=16:=by unfold XF;rw[å,E7];simp
  have hrv:=λ(W:Wd) b=>On (G:=G) (w:=W) (b:=b) (e:=e)
  have HRV:=hid hrv;have fV:=G.aG (Y e);generalize G.aQ (Y e)=xa at*;generalize XF G e=va at*;have H0:Hid (Am G w xa (jV e 0) (((w.alloc (L xa (G.ix 174 157))).alloc (L (CK false zr) 53)).alloc (L (CK true (jV e 0)) 53))):=by obtain⟨k0,k1,k2,kb⟩:=bQ (w:=w) (o1:=L xa (G.ix 174 157)) (o2:=L (CK false zr) 53) (o3:=L (CK true (jV e 0)) 53) Å;exact⟨k0,k1,k2,kb⟩
  have Yd:=HRV.out _ _ H0.s;have HR:=hid Yd;clear Yd hrv hd;try dsimp only[aw.ix,aw.kd]at*
  first|go_enter func83,ntmps83|go_enter func80,ntmps80
  go_wp2_with (first
   |(refine VT (G:=G) rfl _ rfl rfl (by exact HR.out) v16 ?_))
  change Code.wp _ _ _ _ (((w.alloc (L xa (G.ix 174 157))).alloc (L (CK false zr) 53)).alloc (L (CK true (jV e 0)) 53));generalize ((w.alloc (L xa (G.ix 174 157))).alloc (L (CK false zr) 53)).alloc (L (CK true (jV e 0)) 53)=W0 at*
  go_loopw [11] (λv11 wr=>∃j:Nat,j<=8/\v11=I O j/\Hid (Am G w xa (jV e j) wr)) (λv11 _=>8-(intOf v11).toNat)
  case atStart=>exact⟨0,Ì,rfl,H0.out⟩
  case round=>
   obtain⟨j,hj,rfl,hq⟩:=hrel;clear H0 HR;by_cases dZ:j<8
   .have hix:=Zn.out j dZ
    have wJ:(j:Int)<8:=À;have hme:∀w,(method 580 (G.ix 92 87) dv "Tell").run prog w=.ok ((G.ix 303 280),dv) w:=λw=>Ã
    have kb:=below_alloc1 wr (L #[I G.kd (e ⟨j,dZ⟩).a,I G.kd (e ⟨j,dZ⟩).b] (G.ix 90 85));have h1:=hq.call kb;have HC:=HTL.out _ j dZ h1.b;have H1:Hid (Am G w xa (jV e j) _):=h1;clear kb h1;go_wp2_with fail;refine HC.mono ?_;rintro r w1⟨rfl,b1⟩;have h2:=H1.call b1;obtain⟨x,hxj⟩:∃x,(jV e j)[j]?=Y x:=⟨_,Î (by rw[Ba _ hj];omega)⟩;have y0:=cell_of h2.x _ (Cm (λv:Int×Int=>I O v.1) (λv:Int×Int=>I O v.2) hxj).1;have y1:=cell_of h2.x _ (Cm (λv:Int×Int=>I O v.1) (λv:Int×Int=>I O v.2) hxj).2;have f0:=ay h2.x (1+j*2);have f1:=ay h2.x (1+j*2+1);have A3:Hid (Am G w xa (jV e (j+1)) ((w1.setCell ⟨w.heap.size+1+1,1+j*2,M⟩ (I O (oU (e ⟨j,dZ⟩)).1)).setCell ⟨w.heap.size+1+1,1+j*2+1,M⟩ (I O (oU (e ⟨j,dZ⟩)).2))):=by unfold Hid;rw[<-MH e dZ];exact h2.set (by rw[Ba _ hj];omega) _
    clear hxj h2 b1 HC H1 hix;go_wp2_with fail;exact⟨⟨j+1,À,by go_num,A3⟩,by simp[intOf];omega⟩
   .obtain rfl:j=8:=À
    have hx:=hq.x;have f17:=tM (Y e);have f1o:=JG (Y e);have e8:CK true (jV e 8)=uH (Y e):=by rw[Ms];rfl
    rw[e8]at hx;generalize Tf:uH (Y e)=fa at*;have HFA:=hid Tf;have HX:Hid (_=_):=hx;have hr:Hid (_=_):=ar hq.z (d:=fa) (by rw[f17];rfl);have HB:Hid (ω w _):=au (b:=w.heap.size+1) À fa.toList 0 w _ hq.b;have HTH:=hid (bO hq.z);clear Tf hx e8 hj dZ;go_wp2_with (first
     |(refine Vm rfl _ rfl rfl HX.out f17 ?_)
     |(refine PU rfl _ _ rfl rfl rfl HTH.out f17 f1o ?_))
    refine Ç (Gw rfl _ _ rfl hr.out f17) rfl ⟨by rw[HFA.out],HB.out⟩
end
end W
end
section
namespace W
variable {E: Bool}{G: aw E}
section
variable{k n j B gf p b o:Nat}
variable{z c:Array Value}
variable{dv:Value}
variable{w W W':Wd}
variable{fs l:List ST}
theorem oF{α:Type}{f:α->List Value}{a:α}(hz:f a=z.toList)(hk:∀a,(f a).length=k)(hk0:0<k):madeCells z (n*k)=((List.replicate n a).flatMap f).toArray:=by
 have hs:z.size=k:=by rw[<-è,<-hz,hk]
 refine í λi=>?_
 have er:((List.replicate n a).flatMap f).toArray[i]?=((List.replicate n a).flatMap f)[i]?:=Ø;rw[er];by_cases hi:i<n*k
 .have e:i=i / k*k+i%k:=by rw[Nat.mul_comm];exact(Nat.div_add_mod i k).symm
  have h1:i / k<n:=Nat.div_lt_of_lt_mul (by rw[Nat.mul_comm];exact hi);have h2:i%k<k:=Nat.mod_lt _ hk0;have h3:=iG hk (List.replicate n a) (i / k) a (i%k) (by rw[List.getElem?_replicate,Á h1]) h2;rw[<-e]at h3;rw[h3,hz];unfold madeCells;rw[Array.getElem?_map,Array.getElem?_range,Á hi];simp only[Option.map_some];rw[hs,Ý,getElem!_pos z (i%k) À,Ü À]
 .rw[ã (by rw[size_madeCells];omega),ė (by rw[ga hk,List.length_replicate];omega)]
def fl(fs:List ST):List Value:=fs.flatMap λs=>(uH s).toList
theorem kF(s:ST):(uH s).toList.length=17:=by rw[è];exact tM s
theorem U8:(prog.info? 53).map (λi=>(i.zero,i.size,i.bytes))=Y (Y (J (uH M)),17,136):=Ã
theorem IV(n:Nat)(hn:n<=1000000)(w:Wd):(Instr.makeSlice 31 (I O (n:Nat)) (I O (n:Nat))).run prog w=.ok (Z (Y ⟨w.heap.size,0,M⟩) n n) (w.alloc (L (fl (List.replicate n M)).toArray 53)):=by obtain⟨i,hi,hz⟩:=õ.1 U8;simp only[ñ]at hz;obtain⟨h1,h2,h3⟩:=hz;have:=run_make (P:=prog) w 31 53 i _ underlying31 hi h1 O O n n À Ò (by rw[h3];omega) À;rw[this,h2];simp only[Int.toNat_natCast];congr 4;exact oF (f:=λs=>(uH s).toList) (a:=M) (z:=uH M) rfl kF À
def od(fs:List ST)(j:Nat):List ST:=fs.take j++List.replicate (fs.length-j) M
theorem PT(fs:List ST)(h:j<=fs.length):(od fs j).length=fs.length:=by unfold od;simp;omega
theorem O7(fs:List ST)(h:j<fs.length){s:ST}(hs:fs[j]?=Y s):(od fs j).set j s=od fs (j+1):=by
 have hl:(fs.take j).length=j:=by simp;omega
 have hk:=Í.1 hs;unfold od;rw[List.set_append_right _ _ À,hl,Nat.sub_self,show fs.length-j=(fs.length-(j+1))+1 by omega,List.replicate_succ,List.set_cons_zero,ä hk.1,hk.2,Ô];rfl
theorem KW(fs:List ST)(h:j<fs.length)(hs:fs[j]?=Y M):od fs (j+1)=od fs j:=by
 have hl:(fs.take j).length=j:=by simp;omega
 have hk:=Í.1 hs;unfold od;rw[show fs.length-j=(fs.length-(j+1))+1 by omega,List.replicate_succ,ä hk.1,hk.2,Ô];rfl
theorem OB(fs:List ST):od fs fs.length=fs:=by unfold od;simp
structure wP(B:Nat)(G:aw E)(dv:Value)(gf:Nat)(w:Wd)(fs l:List ST)(W:Wd):Prop where
 d:fU B G dv W
 g:W.heap[gf]?=Y (L (G.cX fs).toArray (G.ix 174 157))
 x:W.heap[w.heap.size]?=Y (L (fl l).toArray 53)
 b:ω w W
theorem wP.call{G:aw E}(h:wP B G dv gf w fs l W)(k:ω W W'):wP B G dv gf w fs l W':=
 ⟨h.d.below (k.mono h.d.size),(k.block _ (ah h.g)).trans h.g,(k.block _ (ah h.x)).trans h.x,h.b.trans (k.mono h.b.size)⟩
theorem wP.set{G:aw E}(h:wP B G dv gf w fs l W)(hB:B<=w.heap.size)(hg:gf<w.heap.size)(hj:j<l.length)(s:ST):wP B G dv gf w fs (l.set j s) (W.setCells w.heap.size (j*17) (uH s).toList):=by
 have hb:ω w (W.setCells w.heap.size (j*17) (uH s).toList):=au (b:=w.heap.size) È _ _ _ _ h.b;have Gm:Below w.heap.size W (W.setCells w.heap.size (j*17) (uH s).toList):=au (b:=w.heap.size) È _ _ _ _ Å;refine⟨h.d.below (Gm.mono hB),(al _ _ _ _ À).trans h.g,?_,hb⟩;obtain⟨c',h1,h2,h3,h4⟩:=gv (uH s).toList (j*17) W (fl l).toArray h.x (by rw[kF,å];unfold fl;rw[ga kF];have:(j+1)*17<=l.length*17:=î _ hj;omega);rw[h1];congr 2;refine í λi=>?_
 have e2:(fl (l.set j s)).toArray[i]?=((l.set j s).flatMap λs=>(uH s).toList)[i]?:=Ø;rw[e2,qD kF l j s i hj];by_cases hi:j*17<=i/\i<j*17+17
 .rw[Á hi]
  have:=h3 (i-j*17) (by rw[kF];omega);rw[show j*17+(i-j*17)=i by omega]at this;exact this
 .rw[Â hi,h4 i (by rw[kF];omega),Ø]
  rfl
theorem wP.there{G:aw E}(h:wP B G dv gf w fs l W)(hj:j<l.length):W.there w.heap.size (j*17) 17:=by
 intro i hi;refine⟨?_,ay h.x _⟩;have hl:j*17+i<(fl l).toArray.size:=by rw[å];unfold fl;rw[ga kF];have:(j+1)*17<=l.length*17:=î _ hj;omega
 rw[cell_of h.x _ (Ü hl)];rfl
theorem DS(h:w.heap[gf]?=Y (L (G.cX fs).toArray (G.ix 174 157))){f:ST}(hp:fs[p]?=Y f):w.rangeAt gf (p*17) (G.aQ f).toList:=by
 intro j v hv;have hj:j<17:=by have:=(Í.1 hv).1;rw[G.dF]at this;exact this
 refine cell_of h _ ?_;rw[Ø];show(fs.flatMap λs=>(G.aQ s).toList)[p*17+j]?=Y v;rw[iG G.dF fs p f j hp hj];exact hv
theorem NG{ops:Array Oper}{rest:List Oper}{op:Oper}{a:Act}{Q:Exit->Act->Wd->Prop}(sE:op.guard=M)(x:Operand)(ho:op.op=.load (G.ix 174 157) x)(hx:a.eval x=ρ (Y ⟨b,o,M⟩))(h:w.rangeAt b o c.toList)(hc:c.size=17)
  (k:wpList prog ops Q rest (a.put op.dst (J c)) w):wpList prog ops Q (op::rest) a w:=by
 cases E
 all_goals
  try dsimp only[aw.ix,aw.kd]at*
  refine wpList_load_mid sE (G.ix 174 157) x ho b o hx c.toList _ h (by first|exact underlying174|exact underlying157) rfl (by rw[eV (G:=G)];simp[hc]) ?_;simpa using k
theorem N5(w:Wd)(u:Array Value)(h:u.size=17) :
  (w.alloc (L G.zS (G.ix 174 157))).heap[w.heap.size]?=Y (L G.zS (G.ix 174 157)) /\
  ((w.alloc (L G.zS (G.ix 174 157))).setCells w.heap.size 0 u.toList).heap[w.heap.size]?=Y (L u (G.ix 174 157)) /\
  ω w ((w.alloc (L G.zS (G.ix 174 157))).setCells w.heap.size 0 u.toList):=by
 have a1:=heap_alloc_new w (L G.zS (G.ix 174 157));exact⟨a1,ar a1 (by rw[h];rfl),au È _ _ _ _ (below_alloc1 w _)⟩
theorem En{G:aw E}(dv:Value)(gf cf:Nat)(fs:List ST)(w:Wd)(hd:fU B G dv w)(hg:w.heap[gf]?=Y (L (G.cX fs).toArray (G.ix 174 157)))(hw:∀s∈fs,Sp.Wf (Kr G) s)(hn:fs.length<=1000000) :
  Calls prog (G.ix 50 46) #[σ (G.ix 92 87) dv,Z (Y ⟨gf,0,M⟩) fs.length cf] w λr w'=>r=υ (Z (Y ⟨w.heap.size,0,M⟩) fs.length fs.length)/\w'.heap[w.heap.size]?=Y (L (fl fs).toArray 53)/\ω w w':=by
 cases E
 all_goals
  try dsimp only[aw.ix,aw.kd]at*
  have No:=IV fs.length hn;have HFC:Hid (∀W (e:Fin 8->Sp.Iv),fU B G dv W->(∀k,G.Wv (e k))->Calls _ _ _ W _):=λW e hW he=>Hu (G:=G) dv e W hW he
  have xQ:=ah hg;have hB:=hd.size;have H0:Hid (wP B G dv gf w fs (od fs 0) (w.alloc (L (fl (List.replicate fs.length M)).toArray 53))):=by have kb:=below_alloc1 w (L (fl (List.replicate fs.length M)).toArray 53);exact⟨hd.below (kb.mono hB),(kb.block _ xQ).trans hg,heap_alloc_new _ _,kb⟩
  have HW:=hid hw;have WI:(fs.length:Int)<=1000000:=À;clear hd hg hw;try dsimp only[aw.ix,aw.kd]
  first|go_enter func50,ntmps50|go_enter func46,ntmps46
  go_wp2_with fail;generalize w.alloc (L (fl (List.replicate fs.length M)).toArray 53)=W0 at*;clear No
  go_loopw [13] (λWO wr=>∃j:Nat,j<=fs.length/\WO=I O j/\Hid (wP B G dv gf w fs (od fs j) wr)) (λWO _=>fs.length-(intOf WO).toNat)
  case atStart=>exact⟨0,Ì,rfl,H0.out⟩
  case round=>
   obtain⟨j,hj,rfl,hq⟩:=hrel;clear H0;by_cases dZ:j<fs.length
   .obtain⟨f,hf⟩:∃f,fs[j]?=Y f:=⟨_,Î dZ⟩
    have wJ:((j:Nat):Int)<((fs.length:Nat):Int):=À;have HRG:=hid (DS hq.g hf);have Xn:=HW.out f (Ù hf);obtain⟨xa,oQ⟩:∃xa,xa=G.aQ f:=⟨_,rfl⟩;rw[<-oQ]at HRG;have fV:xa.size=17:=by rw[oQ];exact G.aG f
    have x1:xa.all (·.oneCell')=true:=by rw[oQ];exact G.aZ f
    have xy:xa[0]?=Y (U f.isSome):=by rw[oQ];cases f<;>rfl
    obtain⟨t1,t2,tb⟩:=N5 (G:=G) wr xa fV;have T1:=hid t1;have T2:=hid t2;have H2:Hid (wP B G dv gf w fs (od fs j) _):=hq.call tb;have c0:=cell_of t2 0 xy;have Q9:=hid oQ;have hjm:j*17<9223372036854775807:=À;clear t1 t2 tb oQ;cases f with
    |none=>
     have hm:Hid (od fs (j+1)=od fs j):=KW fs dZ hf;go_wp2_with (first
      |(refine NG (G:=G) rfl _ rfl rfl HRG.out fV ?_)
      |(refine cy (G:=G) rfl _ _ rfl rfl rfl (by exact T1.out) rfl fV x1 ?_))
     exact⟨⟨j+1,À,by go_num,by rw[hm.out];exact H2⟩,by simp[intOf];omega⟩
    |some e=>
     have hm:Hid ((od fs j).set j (Y e)=od fs (j+1)):=O7 fs dZ hf;have hC:=HFC.out _ e H2.d (Xn e rfl);rw[<-Q9.out]at hC;have HC:=hid hC;have f17:=tM (Y e);have f1o:=JG (Y e);generalize Tf:uH (Y e)=fa at*;have HFA:=hid Tf;clear hC Tf;go_wp2_with (first
      |(refine NG (G:=G) rfl _ rfl rfl HRG.out fV ?_)
      |(refine cy (G:=G) rfl _ _ rfl rfl rfl (by exact T1.out) rfl fV x1 ?_)
      |(refine bR (G:=G) rfl _ rfl rfl (by exact T2.out) fV ?_))
     refine HC.mono ?_;rintro r w1⟨rfl,b1⟩;have h3:=H2.call b1;have hlm:j<(od fs j).length:=by rw[PT fs hj];exact dZ
     have HTH:=hid (h3.there hlm);have H4:Hid (wP B G dv gf w fs (od fs (j+1)) (w1.setCells w.heap.size (j*17) fa.toList)):=by unfold Hid;rw[<-hm.out,<-HFA.out];exact h3.set hB xQ hlm (Y e)
     clear h3 b1 HC H2 T1 T2 c0 HRG;go_wp2_with (first
      |(refine PU rfl _ _ rfl rfl rfl HTH.out f17 f1o ?_))
     exact⟨⟨j+1,À,by go_num,H4⟩,by simp[intOf];omega⟩
   .obtain rfl:j=fs.length:=À
    have hx:=hq.x;rw[OB]at hx;have HX:Hid (_=_):=hx;have HB:=hid hq.b;clear hx;go_wp2_with fail;go_ret;exact⟨rfl,HX.out,HB.out⟩
end
end W
end
namespace W
section
variable{w w':Wd}
variable{g o n m B:Nat}
variable{a a':Option Addr}
theorem OI:(prog.info? 3).map (λi=>(i.zero,i.size,i.bytes))=Y (Y (I O 0),1,8):=Ã
theorem yA(n:Nat)(hn:n<=1000000)(w:Wd):(Instr.makeSlice 25 (I O (n:Nat)) (I O (n:Nat))).run prog w=.ok (Z (Y ⟨w.heap.size,0,M⟩) n n) (w.alloc (L (cL (List.replicate n 0)).toArray 3)):=by obtain⟨i,hi,hz⟩:=õ.1 OI;simp only[ñ]at hz;obtain⟨h1,h2,h3⟩:=hz;have:=run_make (P:=prog) w 25 3 i _ underlying25 hi h1 O O n n À Ò (by rw[h3];omega) À;rw[this,h2];simp only[Int.toNat_natCast];congr 4;have:=oF (f:=λk:Nat=>[Value.int O ((k:Nat):Int)]) (k:=1) (n:=n) (a:=0) (z:=#[I O 0]) rfl (λ_=>rfl) À;rw[show(Value.int O 0).cells=#[I O 0] from rfl,this];unfold cL;rw[List.map_eq_flatMap]
abbrev XH:=List (Option (Fin 8->Sp.Iv))×List Nat
def tN(B:Nat)(w:Wd)(v:Value)(F:XH):Prop:=
 ∃g h,v=J #[Z (Y ⟨g,0,M⟩) F.1.length F.1.length,Z (Y ⟨h,0,M⟩) F.2.length F.2.length]/\B<=g/\B<=h/\w.heap[g]?=Y (L (fl F.1).toArray 53)/\w.heap[h]?=Y (L (cL F.2).toArray 3)
structure Co(w:Wd)(a:Option Addr)(n:Nat)(a':Option Addr)(m:Nat)(F:XH):Prop where
 n:n=F.1.length
 m:m=F.2.length
 f:∀i s,F.1[i]?=Y s->∃g,a=Y ⟨g,0,M⟩/\w.rangeAt g (i*17) (uH s).toList
 s:∀i k,F.2[i]?=Y k->∃g,a'=Y ⟨g,0,M⟩/\w.cell? ⟨g,i,M⟩=Y (I O ((k:Nat):Int))
theorem DP{l:List Value}(h:w.rangeAt g o l)(b:ω w w'):w'.rangeAt g o l:=λj v hv=>by have h1:=h j v hv;rw[b.cell (p:=⟨g,o+j,M⟩) (tC h1)];exact h1
theorem Co.below{F:XH}(h:Co w a n a' m F)(b:ω w w'):Co w' a n a' m F:=by
 refine⟨h.n,h.m,λi s hs=>?_,λi k hk=>?_⟩
 .obtain⟨g,h1,h2⟩:=h.f i s hs
  exact⟨g,h1,DP h2 b⟩
 .obtain⟨g,h1,h2⟩:=h.s i k hk
  exact⟨g,h1,by rw[b.cell (p:=⟨g,i,M⟩) (tC h2)];exact h2⟩
theorem Co.of{v:Value}{F:XH}(h:tN B w v F):∃a n a' m,v=J #[Z a n n,Z a' m m]/\Co w a n a' m F:=by
 obtain⟨g,h,rfl,_,_,h1,h2⟩:=h;refine⟨_,_,_,_,rfl,rfl,rfl,λi s hs=>⟨g,rfl,?_⟩,λi k hk=>⟨h,rfl,?_⟩⟩
 .intro j v hv
  have hj:j<17:=by have:=(Í.1 hv).1;rw[kF]at this;exact this
  refine cell_of h1 _ ?_;rw[Ø];show(F.1.flatMap λs=>(uH s).toList)[i*17+j]?=Y v;rw[iG kF F.1 i s j hs hj];exact hv
 .exact cell_of h2 i (rj hk)
end
end W
section
namespace W
variable {E: Bool}{G: aw E}
section
variable{s t:ST}
def CA(G:aw E)(x:Sp.Iv):List Lit:=[.int G.kd (vA x),.int G.kd (vB x)]
theorem aw.FN(G:aw E)(D:Nat)(n:Int)(h:(Lit.int G.kd n).wf=true):prog.keyLits (D+1) (G.ix 73 2) [.int G.kd n]=Y [.int G.kd n]:=by
 cases E
 all_goals
  dsimp only[aw.ix,aw.kd]at*
  unfold Program.keyLits
  first|rw[underlying73]|rw[underlying2]
  exact Á ⟨rfl,h⟩
theorem LH(D:Nat)(b:Bool):prog.keyLits (D+1) 4 [.bool b]=Y [.bool b]:=by unfold Program.keyLits;rw[underlying4]
theorem OP(D:Nat)(n:Int)(h:(Lit.int O n).wf=true):prog.keyLits (D+1) 3 [.int O n]=Y [.int O n]:=by unfold Program.keyLits;rw[underlying3];exact Á ⟨rfl,h⟩
theorem aw.KU(G:aw E):prog.cellsOf (G.ix 73 2)=1:=by cases E<;>kernel_rfl
theorem Ho:prog.cellsOf 4=1:=Ã
theorem LQ:prog.cellsOf 3=1:=Ã
theorem aw.uS(G:aw E):prog.cellsOf (G.ix 90 85)=2:=by cases E<;>kernel_rfl
theorem aw.uY(G:aw E):prog.cellsOf (G.ix 172 155)=16:=by cases E<;>kernel_rfl
theorem aw.ti(G:aw E):prog.cellsOf (G.ix 174 157)=17:=by cases E<;>kernel_rfl
theorem aw.zD(G:aw E):prog.cellsOf (G.ix 341 332)=18:=by cases E<;>kernel_rfl
theorem aw.Oq(G:aw E)(D:Nat)(x:Sp.Iv)(h:zu G x):prog.keyLits (D+1+1) (G.ix 90 85) [.int G.kd x.a,.int G.kd x.b]=Y (CA G x):=by
 cases E
 all_goals
  dsimp only[aw.ix,aw.kd]at*
  unfold Program.keyLits
  first|rw[underlying90,G.uS]|rw[underlying85,G.uS]
  refine(Á ⟨rfl,Ã⟩).trans ?_;simp only[ø,ú,G.KU,ò,ý,á,ó,G.FN D _ h.1,G.FN D _ h.2];rfl
theorem aw.Qd(G:aw E)(D:Nat)(e:Fin 8->Sp.Iv)(h:∀k,zu G (e k)):prog.keyLits (D+1+1+1) (G.ix 172 155) [.int G.kd (e 0).a,.int G.kd (e 0).b,.int G.kd (e 1).a,.int G.kd (e 1).b,.int G.kd (e 2).a,.int G.kd (e 2).b,.int G.kd (e 3).a,.int G.kd (e 3).b,.int G.kd (e 4).a,.int G.kd (e 4).b,.int G.kd (e 5).a,.int G.kd (e 5).b,.int G.kd (e 6).a,.int G.kd (e 6).b,.int G.kd (e 7).a,.int G.kd (e 7).b]=Y (CA G (e 0)++(CA G (e 1)++(CA G (e 2)++(CA G (e 3)++(CA G (e 4)++(CA G (e 5)++(CA G (e 6)++CA G (e 7)))))))):=by
 cases E
 all_goals
  dsimp only[aw.ix,aw.kd]at*
  unfold Program.keyLits
  first|rw[underlying172,G.uY]|rw[underlying155,G.uY]
  refine(Á rfl).trans ?_;simp only[G.uS,show List.range 8=[0,1,2,3,4,5,6,7] from rfl,ø,ú,Nat.reduceMul,ò,ý,á,ó,G.Oq D _ (h _)];rfl
def Cs(G:aw E)(e:Fin 8->Sp.Iv):List Value:=[I G.kd (e 0).a,I G.kd (e 0).b,I G.kd (e 1).a,I G.kd (e 1).b,I G.kd (e 2).a,I G.kd (e 2).b,I G.kd (e 3).a,I G.kd (e 3).b,I G.kd (e 4).a,I G.kd (e 4).b,I G.kd (e 5).a,I G.kd (e 5).b,I G.kd (e 6).a,I G.kd (e 6).b,I G.kd (e 7).a,I G.kd (e 7).b]
theorem aw.BU(G:aw E)(s:ST):∃b e,(G.aQ s).toList=U b::Cs G e/\b=s.isSome/\((∃g,s=Y g/\e=g)∨(s=M/\e=λ_=>⟨0,0⟩)):=by
 cases s with
 |none=>exact⟨false,λ_=>⟨0,0⟩,Ê,rfl,.inr ⟨rfl,rfl⟩⟩
 |some e=>exact⟨true,e,Ê,rfl,.inl ⟨e,rfl,rfl⟩⟩
theorem aw.Ox(G:aw E)(hs:Sp.Wf (Kr G) s):∃b e,(G.aQ s).toList=U b::Cs G e/\∀k,zu G (e k):=by
 obtain⟨b,e,h1,_,h⟩:=G.BU s;refine⟨b,e,h1,?_⟩
 rcases h with⟨g,rfl,rfl⟩|⟨_,rfl⟩
 .exactλk=>VD (hs _ rfl k)
 .exactλ_=>PR
theorem Pw{e g:Fin 8->Sp.Iv}(h:Cs G e=Cs G g):e=g:=by
 unfold Cs at h;simp only[List.cons.injEq,Value.int.injEq,true_and,and_true]at h;funext k
 match k with
 |0=>exact wm h.1 h.2.1
 |1=>exact wm h.2.2.1 h.2.2.2.1
 |2=>exact wm h.2.2.2.2.1 h.2.2.2.2.2.1
 |3=>exact wm h.2.2.2.2.2.2.1 h.2.2.2.2.2.2.2.1
 |4=>exact wm h.2.2.2.2.2.2.2.2.1 h.2.2.2.2.2.2.2.2.2.1
 |5=>exact wm h.2.2.2.2.2.2.2.2.2.2.1 h.2.2.2.2.2.2.2.2.2.2.2.1
 |6=>exact wm h.2.2.2.2.2.2.2.2.2.2.2.2.1 h.2.2.2.2.2.2.2.2.2.2.2.2.2.1
 |7=>exact wm h.2.2.2.2.2.2.2.2.2.2.2.2.2.2.1 h.2.2.2.2.2.2.2.2.2.2.2.2.2.2.2
theorem aw.J5(G:aw E)(h:G.aQ s=G.aQ t):s=t:=by
 obtain⟨b,e,h1,h2,h3⟩:=G.BU s;obtain⟨b',e',o8,Gq,zW⟩:=G.BU t;rw[h,o8]at h1;injection h1 with hb he
 have he:=Pw he;injection hb with hb
 subst he
 rcases h3 with⟨g,rfl,rfl⟩|⟨rfl,rfl⟩<;>rcases zW with⟨g',rfl,rfl⟩|⟨rfl,h5⟩
 .rfl
 .rw[h2,Gq]at hb;cases hb
 .rw[h2,Gq]at hb;cases hb
 .rfl
theorem aw.Jl(G:aw E)(D:Nat)(b:Bool)(e:Fin 8->Sp.Iv)(h:∀k,zu G (e k)):∃μ,prog.keyLits (D+1+1+1+1) (G.ix 174 157) (.bool b::Cs G e)=Y μ:=by
 cases E
 all_goals
  dsimp only[aw.ix,aw.kd]at*
  unfold Program.keyLits
  first|rw[underlying174,G.ti]|rw[underlying157,G.ti]
  refine⟨?_,(Á ⟨rfl,Ã⟩).trans ?_⟩
  rotate_left
  .unfold Cs
   simp only[ø,ú,Ho,G.uY,ò,ý,á,ó,LH,G.Qd D e h];rfl
theorem aw.RN(G:aw E)(D:Nat)(p:Int)(hp:(Lit.int O p).wf=true)(b:Bool)(e:Fin 8->Sp.Iv)(h:∀k,zu G (e k)):∃μ,prog.keyLits (D+1+1+1+1+1) (G.ix 341 332) (.int O p::.bool b::Cs G e)=Y μ:=by
 cases E
 all_goals
  dsimp only[aw.ix,aw.kd]at*
  obtain⟨μ,hL⟩:=G.Jl D b e h;unfold Program.keyLits
  first|rw[underlying341,G.zD]|rw[underlying332,G.zD]
  refine⟨?_,(Á ⟨rfl,Ã⟩).trans ?_⟩
  rotate_left
  .unfold Cs at hL⊢
   simp only[ø,ú,LQ,G.ti,ò,ý,á,ó,OP _ p hp,hL];rfl
theorem yz:10<=prog.types.size:=by exact Nat.le_of_ble_eq_true Ã
theorem Po{G:aw E}(hs:Sp.Wf (Kr G) s):∃l,keyOf prog (G.ix 174 157) (.agg (G.aQ s))=Y l:=by
 cases E
 all_goals
  dsimp only[aw.ix,aw.kd]at*
  obtain⟨b,e,h1,h2⟩:=G.Ox hs;obtain⟨D,hD⟩:∃D,prog.types.size+1=D+1+1+1+1:=⟨prog.types.size-3,by have:=yz;omega⟩;obtain⟨μ,hL⟩:=G.Jl D b e h2;unfold keyOf
  first|rw[underlying174,hD]|rw[underlying157,hD]
  have hk:prog.keyType (G.ix 174 157)=true:=Ã;have hf:(Value.agg (G.aQ s)).formed prog (G.ix 174 157)=true:=by simp only[Value.formed,underlying174,underlying157,G.ti,G.aG];rfl
  refine⟨?_,(Á (by rw[hk,hf];rfl)).trans ?_⟩
  rotate_left
  .show Option.map _ (prog.keyLits _ _ (G.aQ s).toList)=_
   rw[h1,hL];rfl
theorem aw.nB(G:aw E)(p:Int)(s:ST):(G.oE p s).toList=I O p::(G.aQ s).toList:=by simp[aw.oE]
theorem GJ{G:aw E}(hs:Sp.Wf (Kr G) s){p:Int}(hp:0<=p/\p<=1000000):∃l,keyOf prog (G.ix 341 332) (.agg (G.oE p s))=Y l:=by
 cases E
 all_goals
  dsimp only[aw.ix,aw.kd]at*
  obtain⟨b,e,h1,h2⟩:=G.Ox hs;obtain⟨D,hD⟩:∃D,prog.types.size+1=D+1+1+1+1+1:=⟨prog.types.size-4,by have:=yz;omega⟩;have e1:IntKind.i64.min=-9223372036854775808:=rfl;have e2:IntKind.i64.max=9223372036854775807:=rfl;obtain⟨μ,hL⟩:=G.RN D p (by simp only[Lit.wf,e1,e2,à,Õ];omega) b e h2;unfold keyOf
  first|rw[underlying341,hD]|rw[underlying332,hD]
  have hk:prog.keyType (G.ix 341 332)=true:=Ã;have hz:(G.oE p s).size=18:=by rw[<-è,G.nB,List.length_cons,G.dF]
  have hf:(Value.agg (G.oE p s)).formed prog (G.ix 341 332)=true:=by simp only[Value.formed,underlying341,underlying332,G.zD,hz];rfl
  refine⟨?_,(Á (by rw[hk,hf];rfl)).trans ?_⟩
  rotate_left
  .show Option.map _ (prog.keyLits _ _ (G.oE p s).toList)=_
   rw[G.nB,h1,hL];rfl
theorem aw.Vl(G:aw E):WideMaps.KeyLaw prog (G.ix 174 157):=by cases E<;>exact deep_law (m:=8) À Ã Ã (by first|rw[underlying174]|rw[underlying157])
theorem aw.rP(G:aw E):WideMaps.KeyLaw prog (G.ix 341 332):=by cases E<;>exact deep_law (m:=8) À Ã Ã (by first|rw[underlying341]|rw[underlying332])
theorem TM{G:aw E}(hs:Sp.Wf (Kr G) s)(ht:Sp.Wf (Kr G) t)(w:Wd):(Op.equal (G.ix 174 157) (J (G.aQ s)) (J (G.aQ t))).run prog w=.ok (IG (Dm G) s t) w:=by
 cases E
 all_goals
  dsimp only[aw.ix,aw.kd]at*
  obtain⟨l,hl⟩:=Po hs;obtain⟨l',Kx⟩:=Po ht;obtain⟨r,hr,aaX⟩:=run_equal_deep w (m:=8) À Ã (by first|rw[underlying174]|rw[underlying157]) hl Kx;rw[hr];congr 1;have h2:r=true↔s=t:=by
   rw[aaX];constructor
   .intro e
    subst e;have:=G.Vl.inj hl Kx;injection this with this
    exact G.J5 this
   .intro e
    subst e;rw[hl]at Kx;injection Kx
  have h3:=oL (Dm G) s t;cases hc:IG (Dm G) s t with
  |true=>exact h2.2 (h3.1 hc)
  |false=>
   cases r with
   |false=>rfl
   |true=>rw[h3.2 (h2.1 rfl)]at hc;cases hc
end
end W
end
section
namespace W
variable {E: Bool}{G: aw E}
theorem aw.Sv(G:aw E)(s:ST):(prog.info? (G.ix 174 157)).map (·.size)=Y (G.aQ s).toList.length:=by rw[eV,G.dF]
structure CI(G:aw E)(C:Cx)(F:Fd)(wa xa:Array Value)(k:Nat)(W:Wd):Prop where
 o:W.heap[k]?=Y (L wa (G.ix 171 154))
 x:W.heap[k+1]?=Y (L xa (G.ix 174 157))
 f:W.heap[C.fb]?=Y (L #[Z (Y ⟨C.gf,0,M⟩) F.1.length C.cf,Z (Y ⟨C.gs,0,M⟩) F.2.length C.cs] (G.ix 169 152))
theorem aP.UZ{C:Cx}{G:aw E}{T:fS}{F:Fd}{w:Wd}(h:aP C G T F w){p:Nat}{f u:ST}(hp:F.1[p]?=Y f){s:ST}(hu:Sp.jn (Dm G) f s=u)(hs:Sp.Wf (Kr G) s) :
  aP C G T (Sp.tell (Dm G) F (qW (Dm G) (p:Int) s)) (w.setCells C.gf (p*17) (G.aQ u).toList)/\aB C w (w.setCells C.gf (p*17) (G.aQ u).toList):=by
 cases s with
 |some e=>exact h.aA hp hu (hs e rfl)
 |none=>
  have Dl:u=f:=by rw[<-hu];cases f<;>rfl
  subst Dl;obtain⟨n1,n2,n3,n4,n5,n6⟩:=h.ne;obtain⟨es,cl,hm,hE⟩:=h.memo;have hk:aB C w (w.setCells C.gf (p*17) (G.aQ u).toList):=
   ⟨au h.bgf _ _ _ _ Å,λk _ k1 _ _=>al _ _ _ _ k1⟩
  refine⟨⟨(al _ _ _ _ n1).trans h.DO,?_,(al _ _ _ _ (Ne.symm n3)).trans h.xW,⟨es,cl,(al _ _ _ _ n4).trans hm,hE⟩,h.does.below hk.below,h.turns.below hk.below h.big,h.big,h.bfb,h.bgf,h.bgs,h.bm,h.wfF⟩,hk⟩;have MX:p<F.1.length:=(Í.1 hp).1;obtain⟨c',h1,h2,h3,h4⟩:=gv (G.aQ u).toList (p*17) w (G.cX F.1).toArray h.Dt (by rw[G.dF,å];unfold aw.cX;rw[ga G.dF];have:(p+1)*17<=F.1.length*17:=î _ MX;omega);rw[h1];have e:c'=(G.cX F.1).toArray:=by
   refine í λi=>?_
   by_cases hi:p*17<=i/\i<p*17+17
   .have h5:=h3 (i-p*17) (by rw[G.dF];omega)
    rw[show p*17+(i-p*17)=i by omega]at h5;rw[h5,Ø];have h6:(F.1.flatMap λs=>(G.aQ s).toList)[p*17+(i-p*17)]?=(G.aQ u).toList[i-p*17]?:=iG G.dF F.1 p u (i-p*17) hp À;rw[show p*17+(i-p*17)=i by omega]at h6;exact h6.symm
   .rw[h4 i (by rw[G.dF];omega)]
  rw[e];rfl
theorem GR(C:Cx)(G:aw E)(T:fS)(F:Fd)(w:Wd)(h:aP C G T F w)(p:Nat)(f u:ST)(hp:F.1[p]?=Y f)(s:ST)(hu:Sp.jn (Dm G) f s=u)(he:Sp.Wf (Kr G) s) :
  Calls prog (G.ix 49 44) #[J (G.wk C true),I O (p:Nat),J (G.aQ s)] w λr w'=>r=υ (φ #[])/\aP C G T (Sp.tell (Dm G) F (qW (Dm G) (p:Int) s)) w'/\aB C w w':=by
 cases E
 all_goals
  dsimp only[aw.ix,aw.kd]at*
  have MX:p<F.1.length:=(Í.1 hp).1;have abq:((p:Nat):Int)<((F.1.length:Nat):Int):=À;have wL:(G.wk C true)[7]?=Y (ρ (Y ⟨C.fb,0,M⟩)):=rfl;have fH:(G.wk C true).size=8:=rfl;have HJ:Hid (∀W,fU C.base G C.dv W->Calls _ _ _ W _):=λW hd=>qn (B:=C.base) (G:=G) C.dv C.ch C.ao C.narrow C.aj C.th C.m (Y ⟨C.fb,0,M⟩) f s u W hd hu (h.wfF f (Ù hp)) he
  have Tz:G.At C.dv C.ch C.ao C.narrow C.aj C.th C.m (Y ⟨C.fb,0,M⟩)=G.wk C true:=rfl;rw[Tz]at HJ;clear Tz;generalize G.wk C true=wa at*;have hY:(G.aQ s).size=17:=G.aG _;have aby:Hid (_=_):=G.Sv s;generalize oQ:G.aQ s=xa at*;have b0:ω w ((w.alloc (L wa (G.ix 171 154))).alloc (L xa (G.ix 174 157))).drew:=((below_alloc1 w _).alloc Ä _).drew;have HA:Hid (aP C G T F ((w.alloc (L wa (G.ix 171 154))).alloc (L xa (G.ix 174 157))).drew):=h.call b0;have HK:Hid (aB C w ((w.alloc (L wa (G.ix 171 154))).alloc (L xa (G.ix 174 157))).drew):=aB.aF b0 h.le;have H0:Hid (CI G C F wa xa w.heap.size ((w.alloc (L wa (G.ix 171 154))).alloc (L xa (G.ix 174 157))).drew):=⟨heap_alloc_old (heap_alloc_new w _),by rw[show w.heap.size+1=(w.alloc (L wa (G.ix 171 154))).heap.size by simp];exact heap_alloc_new _ _,HA.DO⟩;have d7:=cell_of H0.o 7 wL;have d7':((w.alloc (L wa (G.ix 171 154))).alloc (L xa (G.ix 174 157))).cell? ⟨w.heap.size,7,M⟩=Y (ρ (Y ⟨C.fb,0,M⟩)):=d7;have HN:=hid h;have HP:=hid hp;have HU:=hid hu;have df:=h.lt;have db:=h.ne;clear h hp hu b0 d7;obtain⟨o,ho⟩:∃o,p*17=o:=⟨_,rfl⟩;have HR:Hid (∀W,aP C G T F W->W.rangeAt C.gf o (G.aQ f).toList/\W.there C.gf o 17/\(aP C G T (Sp.tell (Dm G) F (qW (Dm G) (p:Int) s)) (W.setCells C.gf o (G.aQ u).toList)/\aB C W (W.setCells C.gf o (G.aQ u).toList))):=λW hW=>by rw[<-ho];exact⟨hW.fact HP.out,hW.MC MX,hW.UZ HP.out HU.out he⟩
  first|go_enter func49,ntmps49|go_enter func44,ntmps44
  go_wp2_with fail;generalize (w.alloc (L wa (G.ix 171 154))).alloc (L xa (G.ix 174 157))=W at*;refine wp_region_held_drew (S:=λw':Wd=>CI G C F wa xa w.heap.size w') Ã H0.out (λaa=>?_);refine nu 15 rfl (G.nw rfl _ rfl _ _ rfl (xa) (λw' h=>aT h.x) hY) aa ?_;refine nu 6 rfl (G.se rfl _ rfl _ _ rfl (wa) (λw' h=>aT h.o) fH) aa ?_;refine tq 0 (ρ (Y ⟨w.heap.size,7,M⟩)) aa ?_;refine tk 1 (ρ (Y ⟨C.fb,0,M⟩)) rfl (λw' h=>by have d:=cell_of h.o 7 wL;go_simp) aa ?_;refine tq 2 (ρ (Y ⟨C.fb,0,M⟩)) aa ?_;refine tq 3 (ρ (Y ⟨C.fb,0,M⟩)) aa ?_;refine tk 4 (Z (Y ⟨C.gf,0,M⟩) F.1.length C.cf) rfl (λw' h=>by have d:=cell_of h.f 0 rfl;go_simp) aa ?_;refine tq 5 (I O (p:Nat)) aa ?_;refine tq 7 (ρ (Y ⟨w.heap.size,7,M⟩)) aa ?_;refine tk 8 (ρ (Y ⟨C.fb,0,M⟩)) rfl (λw' h=>by have d:=cell_of h.o 7 wL;go_simp) aa ?_;refine tq 9 (ρ (Y ⟨C.fb,0,M⟩)) aa ?_;refine tq 10 (ρ (Y ⟨C.fb,0,M⟩)) aa ?_;refine tk 11 (Z (Y ⟨C.gf,0,M⟩) F.1.length C.cf) rfl (λw' h=>by have d:=cell_of h.f 0 rfl;go_simp) aa ?_;refine tq 12 (I O (p:Nat)) aa ?_;refine tq 13 (ρ (Y ⟨C.gf,o,M⟩)) aa ?_;refine bP 14 λK hK=>?_
  simp only[bG,gd];rw[Á Ê];refine zf (G:=G) _ rfl rfl (HR.out _ HA.out).1 (G.aG f) ?_;simp only[Act.put];refine hK.out _ _ aa (λaa=>?_);clear hK K;refine bP 16 λK hK=>?_
  simp only[bG,gd];go_simp;refine(HJ.out _ HA.does).mono ?_;rintro r w1⟨rfl,b1⟩;go_wp2_with fail;have sD:Hid (aP C G T F w1):=HA.call b1;have rG:Hid (aB C w w1):=HK.more b1 HN.le;have jW:CI G C F wa xa w.heap.size w1:=⟨(b1.block _ (ah aa.o)).trans aa.o,(b1.block _ (ah aa.x)).trans aa.x,(b1.block _ (ah aa.f)).trans aa.f⟩;refine hK.out _ _ jW (λaa=>?_);clear hK K jW b1;refine tq 17 (ρ (Y ⟨C.gf,o,M⟩)) aa ?_;refine bP 18 λK hK=>?_
  simp only[bG,gd];rw[Á Ê];refine lY (G:=G) _ _ rfl rfl rfl (HR.out _ sD.out).2.1 (G.aG u) (G.aZ u) ?_;refine hK.out _ _ ⟨(al _ _ _ _ À).trans aa.o,(al _ _ _ _ À).trans aa.x,(al _ _ _ _ db.1).trans aa.f⟩ (λ_=>?_);clear hK K;refine wpAnyH_done Ã ?_ _;have R:Hid (_/\_):=(HR.out _ sD.out).2.2;go_wp2_with fail;go_returns;exact⟨rfl,R.1,rG.trans R.2⟩
theorem D8(C:Cx)(p:Int)(s:ST)(w:Wd) :
  Calls prog (G.ix 49 44) #[J (G.wk C false),I O p,J (G.aQ s)] w λe w'=>e=υ (φ #[])/\ω w w':=by
 cases E
 all_goals
  dsimp only[aw.ix,aw.kd]at*
  have wL:(G.wk C false)[7]?=Y (ρ M):=rfl;generalize G.wk C false=wa at*;generalize G.aQ s=xa at*;have hb:((w.alloc (L wa (G.ix 171 154))).alloc (L xa (G.ix 174 157))).heap[w.heap.size]?=Y (L wa (G.ix 171 154)):=heap_alloc_old (heap_alloc_new w _);have d7:=cell_of hb 7 wL;clear hb
  first|go_enter func49,ntmps49|go_enter func44,ntmps44
  go_wp2_with fail;go_returns;exact⟨rfl,by go_grown⟩
theorem nX(C:Cx)(G:aw E)(T:fS)(F:Fd)(b:Bool)(w:Wd)(h:aP C G T F w)(p:Int)(s:ST)(hs:Sp.Wf (Kr G) s)(hr:b=true->0<=p/\p.toNat<F.1.length) :
  Calls prog (G.ix 49 44) #[J (G.wk C b),I O p,J (G.aQ s)] w λr w'=>r=υ (φ #[])/\aP C G T (told G b F (qW (Dm G) p s)) w'/\aB C w w':=by
 cases b with
 |false=>refine(D8 C p s w).mono ?_;rintro e w'⟨rfl,k⟩;exact⟨rfl,h.call k,aB.aF k h.le⟩
 |true=>obtain⟨h1,h2⟩:=hr rfl;obtain⟨n,rfl⟩:∃n:Nat,p=(n:Int):=⟨p.toNat,À⟩;exact GR C G T F w h n _ _ (Î (by simpa using h2)) s rfl hs
theorem Fb(C:Cx)(G:aw E)(T:fS)(F:Fd)(b:Bool)(w:Wd)(h:aP C G T F w)(p:Int)(e:Fin 8->Sp.Iv)(he:∀k,G.Wv (e k))(hr:dk b F [.aA p e]) :
  Calls prog (G.ix 49 44) #[J (G.wk C b),I O p,J (G.aQ (Y e))] w λr w'=>r=υ (φ #[])/\aP C G T (told G b F [.aA p e]) w'/\aB C w w':=
 nX C G T F b w h p (Y e) (Sp.Wf.some he) λhb=>hr hb _ (Ö.2 rfl)
end W
end
end Go.Proofs.YtiopfihjmkfdmabGreatDoor
