import Derived.Test.YtiopfihjmkfdmabGreatDoorC16
namespace Go.Proofs.YtiopfihjmkfdmabGreatDoor
open Option renaming none->M,some->Y
open Go.Value renaming agg->J,pointer->ρ,iface->σ,int->I,bool->U,slice->Z,tuple->φ
open Go.IntKind renaming i64->O,i16->ψ
open Go.Obj renaming cells->L
open Go.Ending renaming returned->υ
open Go.Proofs.Tryz Sp
open Go.RowKit
set_option maxRecDepth 100000
set_option maxHeartbeats 16000000
section
namespace W
variable {E: Bool}{G: aw E}
section
variable{op:Oper}
variable{a:Act}
variable{w w1 w2 w3 w' w0 W:Wd}
variable{b o k q n p:Nat}
variable{c:Array Value}
variable{F F0:Fd}
theorem cR{ops:Array Oper}{rest:List Oper}{Q:Exit->Act->Wd->Prop}(sE:op.guard=M)(x:Operand)(ho:op.op=.load (G.ix 171 154) x)(hx:a.eval x=ρ (Y ⟨b,0,M⟩))(h:Bk w b c (G.ix 171 154))(hc:c.size=8)
  (k:wpList prog ops Q rest (a.put op.dst (J c)) w):wpList prog ops Q (op::rest) a w:=by
 cases E
 all_goals
  dsimp only[aw.ix,aw.kd]at*
  refine wpList_load_mid sE (G.ix 171 154) x ho b 0 hx c.toList _ (λj v hv=>by rw[Nat.zero_add];exact cell_of h j (by simpa using hv)) (by first|exact underlying171|exact underlying154) rfl (by rw[CP];simp[hc]) ?_;simpa using k
theorem zf{K:Act->Wd->Prop}{Q:Exit->Act->Wd->Prop}(x:Operand)(ho:op.op=.load (G.ix 174 157) x)(hx:a.eval x=ρ (Y ⟨b,o,M⟩))(hr:w.rangeAt b o c.toList)(hc:c.size=17)
  (h:K (a.put op.dst (J c)) w):op.wp prog a w K Q:=by
 cases E
 all_goals
  dsimp only[aw.ix,aw.kd]at*
  refine wp_load_mid (G.ix 174 157) x ho b o hx c.toList _ hr (by first|exact underlying174|exact underlying157) rfl (by rw[eV];simp[hc]) ?_;simpa using h
theorem lY{K:Act->Wd->Prop}{Q:Exit->Act->Wd->Prop}(x y:Operand)(ho:op.op=.store (G.ix 174 157) x y)(hx:a.eval x=ρ (Y ⟨b,o,M⟩))(hy:a.eval y=J c)(ht:w.there b o 17)(hc:c.size=17)(h1:c.all (·.oneCell')=true)
  (h:K (a.put op.dst undef) (w.setCells b o c.toList)):op.wp prog a w K Q:=
 wp_store_mid (G.ix 174 157) x y ho b o c hx hy (by rw[hc];exact ht) (by rw[eV,hc]) h1 h
structure Cx where
 base:Nat
 dv:Value
 ch:Int
 ao:Nat
 narrow:Nat
 aj:Nat
 th:Bool
 m:Nat
 fb:Nat
 gf:Nat
 gs:Nat
 cf:Nat
 cs:Nat
def Cx.iL(C:Cx):z7:=⟨C.ao,C.narrow,C.aj⟩
def aw.wk(G:aw E)(C:Cx)(b:Bool):Array Value:=G.At C.dv C.ch C.ao C.narrow C.aj C.th C.m (if b then Y ⟨C.fb,0,M⟩ else M)
theorem aw.du(G:aw E)(C:Cx)(b:Bool):(G.wk C b).size=8:=rfl
theorem aw.mj(G:aw E)(C:Cx)(b:Bool):(G.wk C b)[0]?=Y (σ (G.ix 92 87) C.dv):=rfl
theorem aw.Ed(G:aw E)(C:Cx)(b:Bool):(G.wk C b)[7]?=Y (ρ (if b then Y ⟨C.fb,0,M⟩ else M)):=rfl
theorem aw.Vs(G:aw E)(C:Cx)(b:Bool):(G.wk C b)[6]?=Y (.map (Y C.m)):=rfl
abbrev fS:=Int->ST->List cE×ST
def aw.cX(G:aw E)(fs:List ST):List Value:=fs.flatMap λs=>(G.aQ s).toList
def cL(l:List Nat):List Value:=l.map λn=>I O ((n:Nat):Int)
def aw.oE(G:aw E)(p:Int)(s:ST):Array Value:=#[I O p]++G.aQ s
def aw.lS(G:aw E)(t:ST)(told:Bool):Array Value:=(G.aQ t).push (U told)
def pM(G:aw E)(T:fS)(F:Fd)(x:MapEntry):Prop:=
 ∃p s t told,x.key=.agg (G.oE p s)/\x.val=.agg (G.lS t told)/\Sp.Wf (Kr G) s/\(0<=p/\p<=1000000)/\(T p s).2=t/\(told=true->jJ (Kr G) F (T p s).1)
structure aP(C:Cx)(G:aw E)(T:fS)(F:Fd)(w:Wd):Prop where
 DO:w.heap[C.fb]?=Y (L #[Z (Y ⟨C.gf,0,M⟩) F.1.length C.cf,Z (Y ⟨C.gs,0,M⟩) F.2.length C.cs] (G.ix 169 152))
 Dt:w.heap[C.gf]?=Y (L (G.cX F.1).toArray (G.ix 174 157))
 xW:w.heap[C.gs]?=Y (L (cL F.2).toArray 3)
 memo:∃es cl,w.heap[C.m]?=Y (.map es cl)/\∀x∈es.toList,pM G T F x
 does:fU C.base G C.dv w
 turns:gI w
 big:11<=C.base
 bfb:C.base<=C.fb
 bgf:C.base<=C.gf
 bgs:C.base<=C.gs
 bm:C.base<=C.m
 wfF:Wg (Kr G) F
structure aB(C:Cx)(w w':Wd):Prop where
 below:Below C.base w w'
 others:∀k,k<w.heap.size->k≠C.gf->k≠C.gs->k≠C.m->w'.heap[k]?=w.heap[k]?
theorem aB.trans{C:Cx}(h:aB C w1 w2)(k:aB C w2 w3):aB C w1 w3:=
 ⟨h.below.trans k.below,λi hi h1 h2 h3=>by rw[k.others i (Nat.lt_of_lt_of_le hi h.below.size) h1 h2 h3,h.others i hi h1 h2 h3]⟩
theorem aB.aF{C:Cx}(h:ω w w')(hB:C.base<=w.heap.size):aB C w w':=⟨h.mono hB,λk hk _ _ _=>h.block k hk⟩
theorem aB.more{C:Cx}(h:aB C w w1)(k:ω w1 w2)(hB:C.base<=w.heap.size):aB C w w2:=
 h.trans (aB.aF k (Nat.le_trans hB h.below.size))
theorem aB.cell{C:Cx}(h:aB C w w'){G:aw E}{T:fS}(ha:aP C G T F w){e:TypeId}{fz:Nat×Nat}(hk:w.heap[k]?=Y (L c e fz))(h1:k≠C.gf)(h2:k≠C.gs):w'.heap[k]?=Y (L c e fz):=by
 rw[h.others k (ah hk) h1 h2 (λe'=>?_)]
 .exact hk
 .obtain⟨es,cl,hm,_⟩:=ha.memo
  rw[<-e',hk]at hm;cases hm
theorem aP.lt{C:Cx}{G:aw E}{T:fS}(h:aP C G T F w):C.fb<w.heap.size/\C.gf<w.heap.size/\C.gs<w.heap.size/\C.m<w.heap.size:=by obtain⟨es,cl,hm,_⟩:=h.memo;exact⟨ah h.DO,ah h.Dt,ah h.xW,ah hm⟩
theorem aP.le{C:Cx}{G:aw E}{T:fS}(h:aP C G T F w):C.base<=w.heap.size:=by have:=h.lt.1;have:=h.bfb;omega
theorem aP.Ke{C:Cx}{G:aw E}{T:fS}(h:aP C G T F w):11<=w.heap.size:=Nat.le_trans h.big h.le
theorem aP.call{C:Cx}{G:aw E}{T:fS}(h:aP C G T F w)(k:ω w w'):aP C G T F w':=by have hl:=h.lt;obtain⟨es,cl,hm,hE⟩:=h.memo;exact⟨(k.block _ hl.1).trans h.DO,(k.block _ hl.2.1).trans h.Dt,(k.block _ hl.2.2.1).trans h.xW,⟨es,cl,(k.block _ hl.2.2.2).trans hm,hE⟩,h.does.below (k.mono h.le),h.turns.below k h.Ke,h.big,h.bfb,h.bgf,h.bgs,h.bm,h.wfF⟩
def jh(C:Cx)(G:aw E)(T:fS)(F:Fd)(b:Bool)(w:Wd)(es:List cE)(u:ST)(e:Ending)(w':Wd):Prop:=
 e=υ (J (G.aQ u))/\aP C G T (told G b F es) w'/\aB C w w'
theorem zk{G:aw E}{T:fS}{x:MapEntry}(h:pM G T F x)(es:List cE):pM G T (Sp.tell (Dm G) F es) x:=by obtain⟨p,s,t,d,h1,h2,h3,h4,h5,h6⟩:=h;exact⟨p,s,t,d,h1,h2,h3,h4,h5,λhd=>(h6 hd).grow es⟩
theorem aP.ne{C:Cx}{G:aw E}{T:fS}(h:aP C G T F w):C.fb≠C.gf/\C.fb≠C.gs/\C.gf≠C.gs/\C.m≠C.gf/\C.m≠C.gs/\C.fb≠C.m:=by
 obtain⟨es,cl,hm,_⟩:=h.memo;have h1:=h.DO;have h2:=h.Dt;have h3:=h.xW;refine⟨λe=>?_,λe=>?_,λe=>?_,λe=>?_,λe=>?_,λe=>?_⟩
 .rw[e,h2]at h1;injection h1 with h1;injection h1 with _ h1 _;exact absurd h1 (by cases E<;>exact Nat.ne_of_beq_eq_false rfl)
 .rw[e,h3]at h1;injection h1 with h1;injection h1 with _ h1 _;exact absurd h1 (by cases E<;>exact Nat.ne_of_beq_eq_false rfl)
 .rw[e,h3]at h2;injection h2 with h2;injection h2 with _ h2 _;exact absurd h2 (by cases E<;>exact Nat.ne_of_beq_eq_false rfl)
 .rw[e,h2]at hm;cases hm
 .rw[e,h3]at hm;cases hm
 .rw[e,hm]at h1;cases h1
theorem rj{l:List Nat}{n:Nat}(h:l[q]?=Y n):(cL l).toArray[q]?=Y (I O ((n:Nat):Int)):=by rw[Ø];unfold cL;rw[List.getElem?_map,h];rfl
theorem aP.site{C:Cx}{G:aw E}{T:fS}(h:aP C G T F w)(hq:F.2[q]?=Y n)(bad:Bool) :
  aP C G T (cY (Dm G) F (.site (q:Int) bad)) (w.setCell ⟨C.gs,q,M⟩ (I O ((max n (if bad then 2 else 1):Nat):Int)))/\aB C w (w.setCell ⟨C.gs,q,M⟩ (I O ((max n (if bad then 2 else 1):Nat):Int))):=by
 obtain⟨n1,n2,n3,n4,n5,n6⟩:=h.ne;obtain⟨es,cl,hm,hE⟩:=h.memo;have hk:aB C w (w.setCell ⟨C.gs,q,M⟩ (I O ((max n (if bad then 2 else 1):Nat):Int))):=
  ⟨(Å).setCell (p:=⟨C.gs,q,M⟩) h.bgs _,λk _ _ k2 _=>Æ _ _ _ _ k2⟩
 have ht:cY (Dm G) F (.site (q:Int) bad)=(F.1,F.2.set q (max n (if bad then 2 else 1))):=by show(F.1,F.2.modify (q:Int).toNat _)=_;rw[show((q:Int)).toNat=q by simp,rU hq]
 refine⟨?_,hk⟩;have ZZ:∀x∈es.toList,pM G T (cY (Dm G) F (.site (q:Int) bad)) x:=λx hx=>zk (hE x hx) [.site (q:Int) bad]
 have hW:Wg (Kr G) (cY (Dm G) F (.site (q:Int) bad)):=BI h.wfF trivial;rw[ht]at ZZ hW⊢;refine⟨?_,(Æ _ _ _ _ n3).trans h.Dt,?_,⟨es,cl,(Æ _ _ _ _ n5).trans hm,ZZ⟩,h.does.below hk.below,h.turns.below hk.below h.big,h.big,h.bfb,h.bgf,h.bgs,h.bm,hW⟩
 .rw[Æ _ _ _ _ n2]
  simp only[List.length_set];exact h.DO
 .rw[ai h.xW q _]
  congr 2;unfold cL;simp[List.map_set]
theorem aw.dF(G:aw E)(s:ST):(G.aQ s).toList.length=17:=by rw[è];exact G.aG s
theorem aP.aA{C:Cx}{G:aw E}{T:fS}(h:aP C G T F w){f u:ST}(hp:F.1[p]?=Y f){e:Fin 8->Sp.Iv}(hu:Sp.jn (Dm G) f (Y e)=u)(he:∀k,(Kr G).wf (e k)) :
  aP C G T (cY (Dm G) F (.aA (p:Int) e)) (w.setCells C.gf (p*17) (G.aQ u).toList)/\aB C w (w.setCells C.gf (p*17) (G.aQ u).toList):=by
 obtain⟨n1,n2,n3,n4,n5,n6⟩:=h.ne;obtain⟨es,cl,hm,hE⟩:=h.memo;have hk:aB C w (w.setCells C.gf (p*17) (G.aQ u).toList):=
  ⟨au h.bgf _ _ _ _ Å,λk _ k1 _ _=>al _ _ _ _ k1⟩
 have MX:p<F.1.length:=(Í.1 hp).1;have ht:cY (Dm G) F (.aA (p:Int) e)=(F.1.set p u,F.2):=by have:=Ep (f:=λf=>Sp.jn (Dm G) f (Y e)) hp;exact Prod.ext (show F.1.modify ((p:Int)).toNat _=F.1.set p u from by rw[show((p:Int)).toNat=p by simp];exact this.trans (Ë (F.1.set p) hu)) rfl
 refine⟨?_,hk⟩;have ZZ:∀x∈es.toList,pM G T (cY (Dm G) F (.aA (p:Int) e)) x:=λx hx=>zk (hE x hx) [.aA (p:Int) e]
 have hW:Wg (Kr G) (cY (Dm G) F (.aA (p:Int) e)):=BI h.wfF he;rw[ht]at ZZ hW⊢;refine⟨?_,?_,(al _ _ _ _ (Ne.symm n3)).trans h.xW,⟨es,cl,(al _ _ _ _ n4).trans hm,ZZ⟩,h.does.below hk.below,h.turns.below hk.below h.big,h.big,h.bfb,h.bgf,h.bgs,h.bm,hW⟩
 .rw[al _ _ _ _ n1]
  simp only[List.length_set];exact h.DO
 .obtain⟨c',h1,h2,h3,h4⟩:=gv (G.aQ u).toList (p*17) w (G.cX F.1).toArray h.Dt (by
   rw[G.dF,å];unfold aw.cX;rw[ga G.dF];have:(p+1)*17<=F.1.length*17:=î _ MX;omega)
  rw[h1];have e:c'=(G.cX (F.1.set p u)).toArray:=by
   refine í λi=>?_
   have e2:(G.cX (F.1.set p u)).toArray[i]?=((F.1.set p u).flatMap λs=>(G.aQ s).toList)[i]?:=Ø;rw[e2];rw[qD G.dF F.1 p u i MX];by_cases hi:p*17<=i/\i<p*17+17
   .rw[Á hi]
    have:=h3 (i-p*17) (by rw[G.dF];omega);rw[show p*17+(i-p*17)=i by omega]at this;exact this
   .rw[Â hi,h4 i (by rw[G.dF];omega),Ø]
    rfl
  rw[e]
theorem aP.fact{C:Cx}{G:aw E}{T:fS}(h:aP C G T F w){f:ST}(hp:F.1[p]?=Y f):w.rangeAt C.gf (p*17) (G.aQ f).toList:=by
 intro j v hv;have hj:j<17:=by have:=(Í.1 hv).1;rw[G.dF]at this;exact this
 refine cell_of h.Dt _ ?_;rw[Ø];show(F.1.flatMap λs=>(G.aQ s).toList)[p*17+j]?=Y v;rw[iG G.dF F.1 p f j hp hj];exact hv
theorem aP.MC{C:Cx}{G:aw E}{T:fS}(h:aP C G T F w)(hp:p<F.1.length):w.there C.gf (p*17) 17:=by
 intro j hj;refine⟨?_,ay h.Dt _⟩;have hl:p*17+j<(G.cX F.1).toArray.size:=by rw[å];unfold aw.cX;rw[ga G.dF];have:(p+1)*17<=F.1.length*17:=î _ hp;omega
 rw[cell_of h.Dt _ (Ü hl)];rfl
theorem aP.upon{C:Cx}{G:aw E}{T:fS}(h0:aP C G T F0 w0)(h:aP C G T F w)(k:Below w0.heap.size w W):aP C G T F W:=by have hl:=h0.lt;obtain⟨es,cl,hm,hE⟩:=h.memo;exact⟨(k.block _ hl.1).trans h.DO,(k.block _ hl.2.1).trans h.Dt,(k.block _ hl.2.2.1).trans h.xW,⟨es,cl,(k.block _ hl.2.2.2).trans hm,hE⟩,h.does.below (k.mono h0.le),h.turns.below k h0.Ke,h.big,h.bfb,h.bgf,h.bgs,h.bm,h.wfF⟩
theorem aB.upon{C:Cx}{G:aw E}{T:fS}(h0:aP C G T F0 w0)(h:aB C w0 w)(k:Below w0.heap.size w W):aB C w0 W:=
 ⟨h.below.trans (k.mono h0.le),λi hi h1 h2 h3=>(k.block i hi).trans (h.others i hi h1 h2 h3)⟩
theorem aB.bf{C:Cx}{G:aw E}{T:fS}(h0:aP C G T F0 w0)(h:aB C w W)(hk:w0.heap.size<=k){o:Obj}(ho:w.heap[k]?=Y o):W.heap[k]?=Y o:=by
 have hl:=h0.lt;have df:k<w.heap.size:=by
  rcases æ k w.heap.size with h|h
  .exact h
  .rw[ã h]at ho;cases ho
 rw[h.others k df À À À];exact ho
end
end W
end
section
namespace W
variable {E: Bool}{G: aw E}
theorem cH{w:Wd}{k j:Nat}{o:Obj}(db:j≠k)(h:w.heap[j]?=Y o)(u v:Value):((w.setCell ⟨k,0,M⟩ u).setCell ⟨k,1,M⟩ v).heap[j]?=Y o:=by rw[Æ _ _ _ _ (show j≠(⟨k,1,M⟩:Addr).block from db),Æ _ _ _ _ (show j≠(⟨k,0,M⟩:Addr).block from db)];exact h
def iU(C:Cx)(G:aw E)(T:fS)(F:Fd)(b:Bool)(w:Wd)(es:List cE)(o:Option Sp.Iv)(r:Ending)(w':Wd):Prop:=
 r=υ (G.y7 o)/\aP C G T (told G b F es) w'/\aB C w w'
def oW(_:aw E)(v:Value)(x:Sp.Sm)(ct:Sp.Ct):Prop:=
 ∀(C:Cx) (G:aw E) (T:fS) (F:Fd) (b:Bool) (w:Wd) (e:Fin 8->Sp.Iv),aP C G T F w->(∀k,G.Wv (e k))->dk b F (Sp.dJ (Dm G) x ct e).1 ->
  Calls prog (G.ix 166 162) #[J (G.wk C b),v,J (G.aQ (Y e))] w (iU C G T F b w (Sp.dJ (Dm G) x ct e).1 (Sp.dJ (Dm G) x ct e).2)
theorem Va(n:Nat)(ct:Sp.Ct)(hn:n<=32767):oW G (σ 180 (I ψ n)) (.num n) ct:=by
 cases E
 all_goals
  try dsimp only[aw.ix,aw.kd]at*
  intro C G T F b w e h he hr;have h1:=Gx (I ψ n);show Calls _ _ _ w (iU C G T F b w [] (Y (G.iC n)));have kL:=G.mj C b;generalize G.wk C b=wa at*;generalize G.aQ (Y e)=xa at*;obtain⟨k0,k1,k2,kb⟩:=bQ (w:=w) (o1:=L wa (G.ix 171 154)) (o2:=L xa (G.ix 174 157)) (o3:=L #[I G.kd 0,I G.kd 0] (G.ix 90 85)) Å;have d0:=cell_of k0 0 kL;have HN:=Kb ((h.does.below (kb.mono h.le))) (n:Int) À À;have HB:=hid kb;have HZ:=hid k2;have HA:=hid h;clear h k0 k1 k2 kb hr;try dsimp only[aw.ix,aw.kd]
  first|go_enter func166,ntmps166|go_enter func162,ntmps162
  go_wp2_with fail;refine HN.mono ?_;rintro r w1⟨rfl,b1⟩;have kh:=(b1.block _ (ah HZ.out)).trans HZ.out;obtain⟨m0,m1,jo,jH,mq⟩:=aI kh;have MQ:=hid (mq (I G.kd (G.iC (n:Int)).a) (I G.kd (G.iC (n:Int)).b));have B1:Hid (ω w w1):=HB.trans (b1.mono HB.size);clear mq b1 kh;go_wp2_with fail;refine Ç (v:=φ #[J #[I G.kd (G.iC (n:Int)).a,I G.kd (G.iC (n:Int)).b],U true]) (by simp[results,results166,results162,go_sem,MQ.1,MQ.2]) rfl ?_;have B2:=(B1.setCell (p:=⟨w.heap.size+1+1,0,M⟩) (by show w.heap.size<=w.heap.size+1+1;omega) (I G.kd (G.iC (n:Int)).a)).setCell (p:=⟨w.heap.size+1+1,1,M⟩) (by show w.heap.size<=w.heap.size+1+1;omega) (I G.kd (G.iC (n:Int)).b);exact⟨rfl,by rw[eI];exact HA.call B2,aB.aF B2 HA.le⟩
theorem aw.xG(G:aw E)(e:Fin 8->Sp.Iv)(k:Fin 8):(G.aQ (Y e))[1+k.val*2]?=Y (I G.kd (e k).a)/\(G.aQ (Y e))[1+k.val*2+1]?=Y (I G.kd (e k).b):=
 G.iV (r:=true) (l:=List.ofFn e) (j:=k.val) (v:=e k) (by rw[â];simp)
theorem Rv(k:Nat)(hk:k<8)(ct:Sp.Ct):oW G (σ 272 (I O k)) (.name k) ct:=by
 cases E
 all_goals
  try dsimp only[aw.ix,aw.kd]at*
  intro C G T F b w e h he hr;have h1:=Ee (I O k);have h2:=nW (I O k);have hg:pV (Dm G) e k=e ⟨k,hk⟩:=dif_pos hk;show Calls _ _ _ w (iU C G T F b w [] (Y (pV (Dm G) e k)));rw[hg];have wF:(k:Int)<8:=À;obtain⟨x0,x1⟩:=G.xG e ⟨k,hk⟩;generalize e ⟨k,hk⟩=v at*;generalize G.wk C b=wa at*;generalize G.aQ (Y e)=xa at*;obtain⟨k0,k1,k2,kb⟩:=bQ (w:=w) (o1:=L wa (G.ix 171 154)) (o2:=L xa (G.ix 174 157)) (o3:=L #[I G.kd 0,I G.kd 0] (G.ix 90 85)) Å;have d0:=cell_of k1 _ x0;have d1:=cell_of k1 _ x1;obtain⟨_,_,_,Nk⟩:=bQ (w:=w) (o1:=L wa (G.ix 171 154)) (o2:=L xa (G.ix 174 157)) (o3:=L #[I G.kd v.a,I G.kd v.b] (G.ix 90 85)) Å;have HB:=hid Nk;have HA:=hid h;clear h k0 k1 k2 kb Nk hr hg he x0 x1;simp only at d0 d1;try dsimp only[aw.ix,aw.kd]
  first|go_enter func166,ntmps166|go_enter func162,ntmps162
  go_wp2_with fail;refine Ç (v:=φ #[J #[I G.kd v.a,I G.kd v.b],U true]) (by simp[results,results166,results162,go_sem]) rfl ?_;exact⟨rfl,by rw[eI];exact HA.call HB.out,aB.aF HB.out HA.le⟩
end W
end
section
namespace W
variable {E: Bool}{G: aw E}
def ve(C:Cx)(G:aw E)(T:fS)(F:Fd)(b:Bool)(v:Value)(e:Fin 8->Sp.Iv)(es:List cE)(o:Option Sp.Iv):Prop:=
 ∀W,aP C G T F W->Calls prog (G.ix 166 162) #[J (G.wk C b),v,J (G.aQ (Y e))] W (iU C G T F b W es o)
theorem lG(tv:TypeId)(uv:Value)(C:Cx)(G:aw E)(T:fS)(F:Fd)(b:Bool)(w:Wd)(e:Fin 8->Sp.Iv)(es:List cE)(o:Option Sp.Iv)(h:aP C G T F w)
  (hs:ve C G T F b (σ tv uv) e es o) (Xn:∀a,o=Y a->G.Wv a):
  Calls prog (G.ix 198 190) #[J (G.wk C b),J #[σ tv uv],J (G.aQ (Y e))] w (iU C G T F b w es (o.map G.kD)):=by
 cases E
 all_goals
  try dsimp only[aw.ix,aw.kd]at*
  obtain⟨k0,k1,k2,k3,kb⟩:=cN (w:=w) (o1:=L (G.wk C b) (G.ix 171 154)) (o2:=L #[σ tv uv] 351) (o3:=L (G.aQ (Y e)) (G.ix 174 157)) (o4:=L #[I G.kd 0,I G.kd 0] (G.ix 90 85)) Å;have HW:=hs _ (h.call kb);have kL:=G.mj C b;have fH:=G.du C b;have hY:=G.aG (Y e);generalize G.wk C b=wa at*;generalize G.aQ (Y e)=xa at*;have K0:=hid k0;have K2:=hid k2;have K3:=hid k3;have c1:=cell_of k1 0 (v:=σ tv uv) rfl;have HB:=hid kb;have HA:=hid h;have hle:w.heap.size<=w.heap.size+1+1+1:=À;clear h k0 k1 k2 k3 kb hs;cases o with
  |none=>
   try dsimp only[aw.ix,aw.kd]
   first|go_enter func198,ntmps198|go_enter func190,ntmps190
   go_wp2_with (first
    |(refine cR (G:=G) rfl _ rfl rfl K0.out fH ?_)
    |(refine bR (G:=G) rfl _ rfl rfl K2.out hY ?_))
   refine HW.mono ?_;rintro r w1⟨rfl,a1,b1⟩;have kh:=b1.bf HA.out hle K3.out;obtain⟨m0,m1,jo,jH,mq⟩:=aI kh;have h2:=dG kh (I G.kd 0) (I G.kd 0);obtain⟨q0,q1,oR,oP,_⟩:=aI h2;have H4:Hid (_=_):=dG h2 (I G.kd 0) (I G.kd 0);have Ko:Hid (Below w.heap.size w1 _):=Below.two (Below.two (Û w.heap.size w1) hle (I G.kd 0) (I G.kd 0)) hle (I G.kd 0) (I G.kd 0);have sD:=hid a1;have rG:Hid (aB C w w1):=(aB.aF HB.out HA.le).trans b1;clear mq kh a1 b1 HW h2;simp only[aw.y7];go_wp2_with fail;have Q0:=cell_of H4.out 0 (v:=I G.kd 0) rfl;have Q1:=cell_of H4.out 1 (v:=I G.kd 0) rfl;refine Ç (v:=φ #[J #[I G.kd 0,I G.kd 0],U false]) (by simp[results,results198,results190,go_sem,Q0,Q1]) rfl ?_;exact⟨rfl,HA.upon sD.out Ko.out,aB.upon HA.out rG.out Ko.out⟩
  |some a=>
   have wa':=Xn a rfl;try dsimp only[aw.ix,aw.kd]
   first|go_enter func198,ntmps198|go_enter func190,ntmps190
   go_wp2_with (first
    |(refine cR (G:=G) rfl _ rfl rfl K0.out fH ?_)
    |(refine bR (G:=G) rfl _ rfl rfl K2.out hY ?_))
   refine HW.mono ?_;rintro r w1⟨rfl,a1,b1⟩;have kh:=b1.bf HA.out hle K3.out;have Zs:=b1.bf HA.out È K0.out;obtain⟨m0,m1,jo,jH,mq⟩:=aI kh;have h2:=dG kh (I G.kd a.a) (I G.kd a.b);have nI:Hid (Below w.heap.size w1 _):=Below.two (Û w.heap.size w1) hle (I G.kd a.a) (I G.kd a.b);obtain⟨q0,q1,oR,oP,_⟩:=aI h2;have db:w.heap.size≠w.heap.size+1+1+1:=À;have d0:=cell_of (cH db Zs (I G.kd a.a) (I G.kd a.b)) 0 kL;have sD:=hid a1;have rG:Hid (aB C w w1):=(aB.aF HB.out HA.le).trans b1;have H2:Hid (_=_):=h2;have b1s:=b1.below.size;have HD:=S3 (HA.upon a1 nI.out).does wa';clear mq kh a1 b1 HW h2 Zs db;simp only[aw.y7];go_wp2_with fail;refine HD.mono ?_;rintro r w2⟨rfl,b2⟩;have ea:=Nat.le_trans (Nat.le_trans HB.size b1s) nI.size;have h3:=(b2.block _ (ah H2.out)).trans H2.out;obtain⟨p0,p1,pf0,pf1,_⟩:=aI h3;have h4:=dG h3 (I G.kd (G.kD a).a) (I G.kd (G.kD a).b);obtain⟨s0,s1,sf0,sf1,_⟩:=aI h4;have H5:Hid (_=_):=dG h4 (I G.kd (G.kD a).a) (I G.kd (G.kD a).b);have QW:Hid (Below w.heap.size w1 _):=Below.two (Below.two (nI.trans (b2.mono ea)) hle (I G.kd (G.kD a).a) (I G.kd (G.kD a).b)) hle (I G.kd (G.kD a).a) (I G.kd (G.kD a).b);clear b2 h3 h4 HD q0 q1 oR oP m0 m1 jo jH d0;go_wp2_with fail;have Q0:=cell_of H5.out 0 (v:=I G.kd (G.kD a).a) rfl;have Q1:=cell_of H5.out 1 (v:=I G.kd (G.kD a).b) rfl;refine Ç (v:=φ #[J #[I G.kd (G.kD a).a,I G.kd (G.kD a).b],U true]) (by simp[results,results198,results190,go_sem,Q0,Q1]) rfl ?_;exact⟨rfl,HA.upon sD.out QW.out,aB.upon HA.out rG.out QW.out⟩
end W
end
section
namespace W
variable {E: Bool}{G: aw E}
def u9(C:Cx)(G:aw E)(T:fS)(F:Fd)(b:Bool)(w:Wd)(es:List cE)(o:Option (Sp.Iv×Sp.Iv))(r:Ending)(w':Wd):Prop:=
 (match o with
   |some (x,y)=>r=υ (φ #[J #[I G.kd x.a,I G.kd x.b],J #[I G.kd y.a,I G.kd y.b],U true])
   |none=>∃i j k l:Int,r=υ (φ #[J #[I G.kd i,I G.kd j],J #[I G.kd k,I G.kd l],U false]))/\aP C G T (told G b F es) w'/\aB C w w'
theorem Ol(tl:TypeId)(ul:Value)(tr:TypeId)(ur:Value)(C:Cx)(G:aw E)(T:fS)(F:Fd)(b:Bool)(w:Wd)(e:Fin 8->Sp.Iv)(es:List cE)(h:aP C G T F w)
  (hs:ve C G T F b (σ tl ul) e es M):
  Calls prog (G.ix 200 192) #[J (G.wk C b),σ tl ul,σ tr ur,J (G.aQ (Y e))] w (u9 C G T F b w es M):=by
 cases E
 all_goals
  try dsimp only[aw.ix,aw.kd]at*
  obtain⟨k0,k1,k2,k3,kb⟩:=cN (w:=w) (o1:=L (G.wk C b) (G.ix 171 154)) (o2:=L (G.aQ (Y e)) (G.ix 174 157)) (o3:=L #[I G.kd 0,I G.kd 0] (G.ix 90 85)) (o4:=L #[I G.kd 0,I G.kd 0] (G.ix 90 85)) Å;have HW:=hs _ (h.call kb);have fH:=G.du C b;have hY:=G.aG (Y e);generalize G.wk C b=wa at*;generalize G.aQ (Y e)=xa at*;have K0:=hid k0;have K1:=hid k1;have K2:=hid k2;have K3:=hid k3;have HB:=hid kb;have HA:=hid h;have qY:w.heap.size<=w.heap.size+1+1:=À;have rh:w.heap.size<=w.heap.size+1+1+1:=À;have MS:w.heap.size+1+1+1≠w.heap.size+1+1:=À;have h23:w.heap.size+1+1≠w.heap.size+1+1+1:=À;clear h k0 k1 k2 k3 kb hs;try dsimp only[aw.ix,aw.kd]
  first|go_enter func200,ntmps200|go_enter func192,ntmps192
  go_wp2_with (first
   |(refine cR (G:=G) rfl _ rfl rfl K0.out fH ?_)
   |(refine bR (G:=G) rfl _ rfl rfl K1.out hY ?_))
  refine HW.mono ?_;rintro r w1⟨rfl,a1,b1⟩;have tW:=b1.bf HA.out qY K2.out;have wG:=b1.bf HA.out rh K3.out;obtain⟨m0,m1,jo,jH,_⟩:=aI tW;have py:=dG tW (I G.kd 0) (I G.kd 0);have xU:=cH MS wG (I G.kd 0) (I G.kd 0);have rG:Hid (aB C w w1):=(aB.aF HB.out HA.le).trans b1;have nI:Hid (Below w.heap.size w1 _):=Below.two (Û w.heap.size w1) qY (I G.kd 0) (I G.kd 0);obtain⟨q0,q1,oR,oP,_⟩:=aI py;obtain⟨p0,p1,pf0,pf1,_⟩:=aI xU;have sD:=hid a1;have DN:=hid py;have Qp:=hid xU;clear a1 b1 HW tW wG py xU;simp only[aw.y7];go_wp2_with fail;generalize (w1.setCell ⟨w.heap.size+1+1,0,M⟩ (I G.kd 0)).setCell ⟨w.heap.size+1+1,1,M⟩ (I G.kd 0)=w2 at*;have MJ:Hid (((((w2.setCell ⟨w.heap.size+1+1,0,M⟩ (I G.kd 0)).setCell ⟨w.heap.size+1+1,1,M⟩ (I G.kd 0)).setCell ⟨w.heap.size+1+1+1,0,M⟩ (I G.kd 0)).setCell ⟨w.heap.size+1+1+1,1,M⟩ (I G.kd 0)).drew.heap[w.heap.size+1+1]?=Y (L #[I G.kd 0,I G.kd 0] (G.ix 90 85))):=cH h23 (dG DN.out (I G.kd 0) (I G.kd 0)) (I G.kd 0) (I G.kd 0);have Zk:Hid (((((w2.setCell ⟨w.heap.size+1+1,0,M⟩ (I G.kd 0)).setCell ⟨w.heap.size+1+1,1,M⟩ (I G.kd 0)).setCell ⟨w.heap.size+1+1+1,0,M⟩ (I G.kd 0)).setCell ⟨w.heap.size+1+1+1,1,M⟩ (I G.kd 0)).drew.heap[w.heap.size+1+1+1]?=Y (L #[I G.kd 0,I G.kd 0] (G.ix 90 85))):=dG (cH MS Qp.out (I G.kd 0) (I G.kd 0)) (I G.kd 0) (I G.kd 0);have zV:Hid (Below w.heap.size w1 ((((w2.setCell ⟨w.heap.size+1+1,0,M⟩ (I G.kd 0)).setCell ⟨w.heap.size+1+1,1,M⟩ (I G.kd 0)).setCell ⟨w.heap.size+1+1+1,0,M⟩ (I G.kd 0)).setCell ⟨w.heap.size+1+1+1,1,M⟩ (I G.kd 0)).drew):=(Below.two (Below.two nI.out qY (I G.kd 0) (I G.kd 0)) rh (I G.kd 0) (I G.kd 0)).drew
  go_region_with (fail)
  all_goals
   go_wp2_with fail;have Q0:=cell_of MJ.out 0 (v:=I G.kd 0) rfl;have Q1:=cell_of MJ.out 1 (v:=I G.kd 0) rfl;have Q2:=cell_of Zk.out 0 (v:=I G.kd 0) rfl;have Q3:=cell_of Zk.out 1 (v:=I G.kd 0) rfl;simp only[World.cell?_drew]at Q0 Q1 Q2 Q3;refine Ç (v:=φ #[J #[I G.kd 0,I G.kd 0],J #[I G.kd 0,I G.kd 0],U false]) (by simp[results,results200,results192,go_sem,Q0,Q1,Q2,Q3]) rfl ?_;exact⟨⟨_,_,_,_,rfl⟩,HA.upon sD.out zV.out,aB.upon HA.out rG.out zV.out⟩
theorem PE(G:aw E)(o:Option Sp.Iv):∃p q ok,G.y7 o=φ #[J #[I G.kd p,I G.kd q],U ok]:=by cases o<;>exact⟨_,_,_,rfl⟩
theorem MI{G:aw E}(a:Sp.Iv){o:Option Sp.Iv}{p q:Int}{ok:Bool}(h:G.y7 o=φ #[J #[I G.kd p,I G.kd q],U ok]):match o.map λc=>(a,c) with
  |some (x,y)=>Ending.returned (φ #[J #[I G.kd a.a,I G.kd a.b],J #[I G.kd p,I G.kd q],U ok])=υ (φ #[J #[I G.kd x.a,I G.kd x.b],J #[I G.kd y.a,I G.kd y.b],U true])
  |none=>∃i j k l:Int,Ending.returned (φ #[J #[I G.kd a.a,I G.kd a.b],J #[I G.kd p,I G.kd q],U ok])=υ (φ #[J #[I G.kd i,I G.kd j],J #[I G.kd k,I G.kd l],U false]):=by
 cases o with
 |none=>simp[aw.y7]at h;obtain⟨⟨rfl,rfl⟩,rfl⟩:=h;exact⟨_,_,_,_,rfl⟩
 |some c=>simp[aw.y7]at h;obtain⟨⟨rfl,rfl⟩,rfl⟩:=h;rfl
theorem AU(tl:TypeId)(ul:Value)(tr:TypeId)(ur:Value)(C:Cx)(G:aw E)(T:fS)(F:Fd)(b:Bool)(w:Wd)(e:Fin 8->Sp.Iv)(es:List cE)(dU:List cE)(a:Sp.Iv)(o:Option Sp.Iv)(h:aP C G T F w)
  (hs:ve C G T F b (σ tl ul) e es (Y a))
  (gN:ve C G T (told G b F es) b (σ tr ur) e dU o):
  Calls prog (G.ix 200 192) #[J (G.wk C b),σ tl ul,σ tr ur,J (G.aQ (Y e))] w (u9 C G T F b w (es++dU) (o.map λc=>(a,c))):=by
 cases E
 all_goals
  try dsimp only[aw.ix,aw.kd]at*
  obtain⟨k0,k1,k2,k3,kb⟩:=cN (w:=w) (o1:=L (G.wk C b) (G.ix 171 154)) (o2:=L (G.aQ (Y e)) (G.ix 174 157)) (o3:=L #[I G.kd 0,I G.kd 0] (G.ix 90 85)) (o4:=L #[I G.kd 0,I G.kd 0] (G.ix 90 85)) Å;have HW:=hs _ (h.call kb);have fH:=G.du C b;have hY:=G.aG (Y e);have TA:=hid gN;unfold ve at TA;obtain⟨p,q,ok,hp⟩:=PE G o;have HO:=hid hp;clear hp;clear gN;generalize G.wk C b=wa at*;generalize G.aQ (Y e)=xa at*;have K0:=hid k0;have K1:=hid k1;have K2:=hid k2;have K3:=hid k3;have HB:=hid kb;have HA:=hid h;have qY:w.heap.size<=w.heap.size+1+1:=À;have rh:w.heap.size<=w.heap.size+1+1+1:=À;have MS:w.heap.size+1+1+1≠w.heap.size+1+1:=À;have h23:w.heap.size+1+1≠w.heap.size+1+1+1:=À;clear h k0 k1 k2 k3 kb hs;try dsimp only[aw.ix,aw.kd]
  first|go_enter func200,ntmps200|go_enter func192,ntmps192
  go_wp2_with (first
   |(refine cR (G:=G) rfl _ rfl rfl K0.out fH ?_)
   |(refine bR (G:=G) rfl _ rfl rfl K1.out hY ?_))
  refine HW.mono ?_;rintro r w1⟨rfl,a1,b1⟩;have tW:=b1.bf HA.out qY K2.out;have wG:=b1.bf HA.out rh K3.out;obtain⟨m0,m1,jo,jH,_⟩:=aI tW;have py:=dG tW (I G.kd a.a) (I G.kd a.b);have xU:=cH MS wG (I G.kd a.a) (I G.kd a.b);have rG:Hid (aB C w w1):=(aB.aF HB.out HA.le).trans b1;have nI:Hid (Below w.heap.size w1 _):=Below.two (Û w.heap.size w1) qY (I G.kd a.a) (I G.kd a.b);obtain⟨q0,q1,oR,oP,_⟩:=aI py;have sD:=hid a1;have Zs:=cH (show w.heap.size≠w.heap.size+1+1 by omega) (b1.bf HA.out È K0.out) (I G.kd a.a) (I G.kd a.b);have jW:=cH (show w.heap.size+1≠w.heap.size+1+1 by omega) (b1.bf HA.out (Nat.le_succ _) K1.out) (I G.kd a.a) (I G.kd a.b);have Ni:=hid Zs;have DJ:=hid jW;have DN:=hid py;have Qp:=hid xU;have Ty:=TA.out _ (HA.upon a1 nI.out);clear a1 b1 HW tW wG py xU Zs jW TA;simp only[aw.y7];go_wp2_with (first
   |(refine cR (G:=G) rfl _ rfl rfl Ni.out fH ?_)
   |(refine bR (G:=G) rfl _ rfl rfl DJ.out hY ?_))
  refine Ty.mono ?_;rintro r w3⟨rfl,a3,b3⟩;rw[HO.out];have BJ:=b3.bf HA.out qY DN.out;have hy3:=b3.bf HA.out rh Qp.out;obtain⟨n0,n1,nf0,nf1,_⟩:=aI hy3;have WV:=cH h23 BJ (I G.kd p) (I G.kd q);have hy4:=dG hy3 (I G.kd p) (I G.kd q);obtain⟨r0,r1,rf0,rf1,_⟩:=aI WV;obtain⟨p0,p1,pf0,pf1,_⟩:=aI hy4;have HA3:=hid a3;have HK3:Hid (aB C w w3):=(aB.upon HA.out rG.out nI.out).trans b3;have Ko:Hid (Below w.heap.size w3 _):=Below.two (Û w.heap.size w3) rh (I G.kd p) (I G.kd q);clear DN Qp;have DN:=hid WV;have Qp:=hid hy4;clear a3 b3 Ty BJ hy3 WV hy4 q0 q1 oR oP m0 m1 jo jH;go_wp2_with fail;generalize (w3.setCell ⟨w.heap.size+1+1+1,0,M⟩ (I G.kd p)).setCell ⟨w.heap.size+1+1+1,1,M⟩ (I G.kd q)=w4 at*;have MJ:Hid (((((w4.setCell ⟨w.heap.size+1+1,0,M⟩ (I G.kd a.a)).setCell ⟨w.heap.size+1+1,1,M⟩ (I G.kd a.b)).setCell ⟨w.heap.size+1+1+1,0,M⟩ (I G.kd p)).setCell ⟨w.heap.size+1+1+1,1,M⟩ (I G.kd q)).drew.heap[w.heap.size+1+1]?=Y (L #[I G.kd a.a,I G.kd a.b] (G.ix 90 85))):=cH h23 (dG DN.out (I G.kd a.a) (I G.kd a.b)) (I G.kd p) (I G.kd q);have Zk:Hid (((((w4.setCell ⟨w.heap.size+1+1,0,M⟩ (I G.kd a.a)).setCell ⟨w.heap.size+1+1,1,M⟩ (I G.kd a.b)).setCell ⟨w.heap.size+1+1+1,0,M⟩ (I G.kd p)).setCell ⟨w.heap.size+1+1+1,1,M⟩ (I G.kd q)).drew.heap[w.heap.size+1+1+1]?=Y (L #[I G.kd p,I G.kd q] (G.ix 90 85))):=dG (cH MS Qp.out (I G.kd a.a) (I G.kd a.b)) (I G.kd p) (I G.kd q);have zV:Hid (Below w.heap.size w3 ((((w4.setCell ⟨w.heap.size+1+1,0,M⟩ (I G.kd a.a)).setCell ⟨w.heap.size+1+1,1,M⟩ (I G.kd a.b)).setCell ⟨w.heap.size+1+1+1,0,M⟩ (I G.kd p)).setCell ⟨w.heap.size+1+1+1,1,M⟩ (I G.kd q)).drew):=(Below.two (Below.two Ko.out qY (I G.kd a.a) (I G.kd a.b)) rh (I G.kd p) (I G.kd q)).drew
  go_region_with (fail)
  all_goals
   go_wp2_with fail;have Q0:=cell_of MJ.out 0 (v:=I G.kd a.a) rfl;have Q1:=cell_of MJ.out 1 (v:=I G.kd a.b) rfl;have Q2:=cell_of Zk.out 0 (v:=I G.kd p) rfl;have Q3:=cell_of Zk.out 1 (v:=I G.kd q) rfl;simp only[World.cell?_drew]at Q0 Q1 Q2 Q3;refine Ç (v:=φ #[J #[I G.kd a.a,I G.kd a.b],J #[I G.kd p,I G.kd q],U ok]) (by simp[results,results200,results192,go_sem,Q0,Q1,Q2,Q3]) rfl ?_;exact⟨MI a HO.out,by rw[aH];exact HA.upon HA3.out zV.out,aB.upon HA.out HK3.out zV.out⟩
end W
end
end Go.Proofs.YtiopfihjmkfdmabGreatDoor
