import Derived.Test.YtiopfihjmkfdmabGreatDoorC5
namespace Go.Proofs.YtiopfihjmkfdmabGreatDoor
open Option renaming some->Y,none->M
open Go.Value renaming int->I,slice->Z,agg->J,bool->U,iface->σ,pointer->ρ,string->χ
open Go.IntKind renaming i64->O
open Go.Obj renaming cells->L
open Go.Proofs.Tryz Sp
open Go.RowKit
set_option maxRecDepth 100000
set_option maxHeartbeats 16000000
section
variable{b lo hi Dx n m base k m1 m2 o N:Nat}
variable{w w' a wr w1 w2:Wd}
variable{τ:Type}
variable{e:TypeId}
variable{v t v' u x y bv cv:Value}
variable{vs:List Value}
variable{A:fE}
variable{ct bj ct1 ct2:Int×Int}
variable{l:Sp.Bs}
variable{p:Int}
variable{he:Bool}
def eS(lo hi:Nat)(w w':Wd):Prop:=∀k,lo<=k->k<hi->¬pf w.heap[k]?->w'.heap[k]?=w.heap[k]?
theorem eS.refl(lo hi:Nat)(w:Wd):eS lo hi w w:=λ_ _ _ _=>rfl
theorem Ext.Ig(h:Ext b w w')(hh:hi<=w.heap.size)(hb:b<lo∨hi<=b):eS lo hi w w':=
 λk h1 h2 hn=>h.block k À À (λ_=>hn)
abbrev aD(ct:Int×Int):Int×Int:=(RowKit.wrap64 (ct.1+1),ct.2)
abbrev aL(ct:Int×Int):Int×Int:=(ct.1,RowKit.wrap64 (ct.2+1))
def oq(T:Int×Int->Nat->Nat->Wd->Value->τ->Int×Int->Prop)(ct:Int×Int)(lo hi:Nat)(w:Wd)(v:Value)(xs:List τ)(bj:Int×Int):Prop:=
 ∃(vs:List Value) (f:Nat->Int×Int),w.ownsRow lo 233 1 v xs.length vs/\(∀g,v.ownBlock=Y g->g<hi)/\(∀(i:Nat) (u:Value) (x:τ),vs[i]?=Y u->xs[i]?=Y x->T (f i) lo hi w u x (f (i+1)))/\f 0=ct/\f xs.length=bj
structure kY(A:fE)(Rp:nZ A) where
 T:Int×Int->Nat->Nat->Wd->Value->A.T->Int×Int->Prop
 mono:∀{ct bj:Int×Int} {lo hi Dx pw:Nat} {w w':Wd} {v:Value} {x:A.T},T ct lo hi w v x bj->Dx<=lo->hi<=pw->eS lo hi w w'->T ct Dx pw w' v x bj
 iface:∀{ct bj:Int×Int} {lo hi:Nat} {w:Wd} {v:Value} {x:A.T},T ct lo hi w v x bj->∃t u,v=σ t u
 assign:∀(ct:Int×Int) (lo hi:Nat) (w:Wd) (k:Nat) (v:Value) (x:A.S) (bj:Int×Int),k<8->Rp.S (aD ct) v x bj->T ct lo hi w (σ 276 (J #[I O ct.1,I O (k:Nat),v])) (A.assign k x) bj
 read:∀(ct:Int×Int) (lo hi:Nat) (w:Wd) (k:Nat),k<8->T ct lo hi w (σ 279 (J #[I O ct.1,I O (k:Nat)])) (A.read k) (aD ct)
 assert:∀(ct:Int×Int) (lo hi:Nat) (w:Wd) (k:Nat) (v:Value) (x:A.S) (ct1:Int×Int) (u:Value) (y:A.S) (ct2:Int×Int),k<6->Rp.S (aL (aD ct)) v x ct1->Rp.S ct1 u y ct2->T ct lo hi w (σ 284 (J #[I O ct.1,I O ct.2,I O (k:Nat),v,u])) (A.assert k x y) ct2
 ite:∀(ct:Int×Int) (lo hi:Nat) (w:Wd) (k:Nat) (v:Value) (x:A.S) (ct1:Int×Int) (u:Value) (y:A.S) (ct2:Int×Int) (bv:Value) (xs:List A.T) (nL:Int×Int),k<6->Rp.S (aD ct) v x ct1->Rp.S ct1 u y ct2->oq T ct2 lo hi w bv xs nL ->
  T ct lo hi w (σ 287 (J #[I O ct.1,I O (k:Nat),v,u,bv,Z M 0 0,U false])) (A.ite k x y xs M) nL
 iteElse:∀(ct:Int×Int) (lo hi:Nat) (w:Wd) (k:Nat) (v:Value) (x:A.S) (ct1:Int×Int) (u:Value) (y:A.S) (ct2:Int×Int) (bv:Value) (xs:List A.T) (nL:Int×Int) (cv:Value) (ys:List A.T) (vk:Int×Int),k<6->Rp.S (aD ct) v x ct1->Rp.S ct1 u y ct2->oq T ct2 lo hi w bv xs nL->oq T nL lo hi w cv ys vk ->
  T ct lo hi w (σ 287 (J #[I O ct.1,I O (k:Nat),v,u,bv,cv,U true])) (A.ite k x y xs (Y ys)) vk
 loop:∀(ct:Int×Int) (lo hi:Nat) (w:Wd) (k:Nat) (v:Value) (x:A.S) (ct1:Int×Int) (u:Value) (y:A.S) (ct2:Int×Int) (bv:Value) (xs:List A.T) (nL:Int×Int),k<6->Rp.S (aD ct) v x ct1->Rp.S ct1 u y ct2->oq T ct2 lo hi w bv xs nL ->
  T ct lo hi w (σ 290 (J #[I O ct.1,I O (k:Nat),v,u,bv])) (A.loop k x y xs) nL
theorem Db(h:w.ownsRow lo e 1 v n vs)(hl:Dx<=lo)(hg:∀g,v.ownBlock=Y g->g<hi)(hs:eS lo hi w w')(he:e≠180:=by decide):w'.ownsRow Dx e 1 v n vs:=by
 obtain⟨h1,h2⟩:=h;refine⟨h1,?_⟩
 rcases h2 with h2|⟨g,cap,cur,rfl,hb,hh,r⟩
 .exact .inl h2
 .exact .inr ⟨g,cap,cur,rfl,Nat.le_trans hl hb,by rw[hs g hb (hg g rfl) (mf hh he)];exact hh,r⟩
theorem oq.mono{Rp:nZ A}(Rt:kY A Rp){pw:Nat}{xs:List A.T}(h:oq Rt.T ct lo hi w v xs bj)(hl:Dx<=lo)(hh:hi<=pw)(hs:eS lo hi w w'):oq Rt.T ct Dx pw w' v xs bj:=by obtain⟨vs,f,h1,h2,h3,h4⟩:=h;exact⟨vs,f,Db h1 hl h2 hs,λg hg=>Nat.lt_of_lt_of_le (h2 g hg) hh,λi u x hu hx=>Rt.mono (h3 i u x hu hx) hl hh hs,h4⟩
theorem Ext.grown{row:Option Nat}(h:Ext b a w)(hg:w.grownBy w' row)(hr:∀k,row=Y k->a.heap.size<=k):Ext b a w':=
 ⟨hg.os.trans h.os,hg.tape.trans h.tape,hg.output.trans h.output,Nat.le_trans h.size hg.size,λk hk hb hn=>(hg.block k (Nat.lt_of_lt_of_le hk h.size) (λe=>by have:=hr k e.symm;omega)).trans (h.block k hk hb hn)⟩
theorem Aq:(prog.info? 233).map (λi=>(i.zero,i.size,i.bytes))=Y (Y .nilIface,1,16):=Ã
def Br(T:Int×Int->Nat->Nat->Wd->Value->τ->Int×Int->Prop)(ct:Int×Int)(base:Nat)(w:Wd)(t:Value)(vs:List Value)(xs:List τ)(bj:Int×Int):Prop:=
 ∃f:Nat->Int×Int,(∀(i:Nat) (u:Value) (x:τ),vs[i]?=Y u->xs[i]?=Y x->∃lo hi,base<=lo/\hi<=w.heap.size/\(∀g,t.ownBlock=Y g->g<lo∨hi<=g)/\T (f i) lo hi w u x (f (i+1)))/\f 0=ct/\f xs.length=bj
def tH{Rp:nZ A}(Rt:kY A Rp)(f:Nat)(b:Nat)(s:ByteArray)(m1 m2 o n:Nat)(st:Sp.Bs->Sp.R A.T):Prop:=
 ∀l ct w,l.length<n->Rd b s m1 m2 l o ct w->Env b m1 m2 w->Calls prog f #[ρ (Y ⟨b,0,M⟩)] w (nj (λct w' v x bj=>Rt.T ct w.heap.size w'.heap.size w' v x bj) b s m1 m2 o ct w (st l))
theorem IE{st:Sp.Bs->Sp.R A.T}{xs:List A.T}(h:¬aC l=2):dh A st m xs l=.ok (xs,l):=by
 cases m with
 |zero=>rfl
 |succ m=>unfold dh;rw[Â h]
theorem ED(h:w.ownsRow base e 1 v n vs)(x:Ext b w w')(hb:b<base)(he:e≠180:=by decide):w'.ownsRow base e 1 v n vs:=by
 obtain⟨h1,h2⟩:=h;refine⟨h1,?_⟩
 rcases h2 with h2|⟨g,cap,cur,rfl,hg,hh,r⟩
 .exact .inl h2
 .exact .inr ⟨g,cap,cur,rfl,hg,x.bH hh À (fK he),r⟩
theorem nQ(h:w.ownsRow base e 1 v n vs):∀g,v.ownBlock=Y g->base<=g/\g<w.heap.size:=by
 intro g hg
 rcases h.2 with⟨rfl,_⟩|⟨g',cap,cur,rfl,hb,hh,_⟩
 .simp[Value.ownBlock]at hg
 .simp[Value.ownBlock]at hg
  subst hg;exact⟨hb,ah hh⟩
theorem Wm(h:w.ownsRow base e 1 v n vs)(he:e≠180)(hk:v.ownBlock=Y k):¬pf w.heap[k]?:=by
 rcases h.2 with⟨rfl,_⟩|⟨g',cap,cur,rfl,hb,hh,_⟩
 .simp[Value.ownBlock]at hk
 .simp[Value.ownBlock]at hk
  subst hk;exact mf hh he
theorem Li{Rp:nZ A}(Rt:kY A Rp){xs:List A.T}(h:w.ownsRow base 233 1 t xs.length vs)(he:Br Rt.T ct base w t vs xs bj):oq Rt.T ct base w.heap.size w t xs bj:=by obtain⟨f,he,h0,h1⟩:=he;refine⟨vs,f,h,λg hg=>(nQ h g hg).2,λi u x hu hx=>?_,h0,h1⟩;obtain⟨lo,hi,h1,h2,_,h4⟩:=he i u x hu hx;exact Rt.mono h4 h1 h2 (eS.refl _ _ _)
theorem Is{Rp:nZ A}(Rt:kY A Rp){xs:List A.T}{x:A.T}
  (ho:wr.ownsRow base 233 1 t xs.length vs) (he:Br Rt.T ct base wr t vs xs ct1) (hb:b<base) (QF:base<=wr.heap.size) (x1:Ext b wr w1) (hv:Rt.T ct1 wr.heap.size w1.heap.size w1 u x ct2) (hg:w1.grownBy w2 t.ownBlock)
  (BP:v'.ownBlock=t.ownBlock∨v'.ownBlock=Y (w1.heap.size+1)):Br Rt.T ct base w2 v' (vs++[u]) (xs++[x]) ct2:=by
 have hlen:vs.length=xs.length:=by simpa using ho.1
 have jW:=x1.size;have gN:=hg.size;obtain⟨f,he,h0,hf⟩:=he;refine⟨λi=>if i<=xs.length then f i else ct2,?_,by simp[h0],by simp;omega⟩;intro i u' x' hu hx;show ∃lo hi,base<=lo/\hi<=w2.heap.size/\(∀g,v'.ownBlock=Y g->g<lo∨hi<=g)/\Rt.T (if i<=xs.length then f i else ct2) lo hi w2 u' x' (if i+1<=xs.length then f (i+1) else ct2);by_cases hi:i<vs.length
 .rw[List.getElem?_append_left hi]at hu
  rw[List.getElem?_append_left À]at hx;obtain⟨lo,pw,h1,h2,h3,h4⟩:=he i u' x' hu hx;rw[Á À,Á À];refine⟨lo,pw,h1,À,λg rf=>?_,Rt.mono h4 È È ?_⟩
  .rcases BP with BP|BP
   .exact h3 g (by rw[<-BP];exact rf)
   .rw[BP]at rf;cases rf;exact .inr À
  .intro k sG kM hn
   rw[hg.block k À (λe=>by rcases h3 k e.symm with h|h<;>omega)];exact x1.block k À À (λ_=>hn)
 .have e:i=vs.length:=by
   have:=(Í.1 hu).1;simp at this;omega
  subst e;rw[List.getElem?_append_right È]at hu;rw[hlen,List.getElem?_append_right È]at hx;simp at hu hx;subst hu hx;rw[Á À,Â À,hlen,hf];refine⟨wr.heap.size,w1.heap.size,QF,gN,λg rf=>?_,Rt.mono hv È È ?_⟩
  .rcases BP with BP|BP
   .exact .inl (nQ ho g (by rw[<-BP];exact rf)).2
   .rw[BP]at rf;cases rf;exact .inr À
  .intro k sG kM _
   exact hg.block k kM (λe=>by have:=(nQ ho k e.symm).2;omega)
theorem gR{Rp:nZ A}(Rt:kY A Rp)(b:Nat)(s:ByteArray)(m1 m2 o n:Nat)(st:Sp.Bs->Sp.R A.T)(da:Hid (∀l x l1,st l=.ok (x,l1)->l1.length<l.length))
  (im:tH Rt 113 b s m1 m2 o n st) (l:Sp.Bs) (ct:Int×Int) (w:Wd) (hl:l.length<n) (h:Rd b s m1 m2 l o ct w) (hE:Env b m1 m2 w):
  Calls prog 76 #[ρ (Y ⟨b,0,M⟩)] w (nj (λct w' v xs bj=>oq Rt.T ct w.heap.size w'.heap.size w' v xs bj) b s m1 m2 o ct w (dh A st (l.length+1) [] l)):=by
 obtain⟨i0,hi,Kv,kh,ff⟩:=info_parts Aq;have df:=h.lt;have abn:l.length<=400:=by have:=h.len;have:=h.sz;omega
 go_enter func76,ntmps76;go_wp2_with fail
 go_loopw [3] (λt wr=>∃(xs:List A.T) (vs:List Value) (l':Sp.Bs) (m:Nat) (bj:Int×Int),Hid (wr.ownsRow w.heap.size 233 1 t xs.length vs/\Br Rt.T ct w.heap.size wr t vs xs bj)/\Hid (l'.length<m/\xs.length+l'.length<=l.length/\dh A st (l.length+1) [] l=dh A st m xs l')/\Hid (Rd b s m1 m2 l' o bj wr/\Env b m1 m2 wr/\Ext b w wr)) (λ_ wr=>iA b s wr)
 case atStart=>exact⟨[],[],l,l.length+1,ct,⟨World.ownsRow_nil _ _ _ _,λ_=>ct,λi u x hu=>by simp at hu,rfl,rfl⟩,⟨Nat.lt_succ_self _,Ä,rfl⟩,h,hE,Ext.refl _ _⟩
 case round=>
  obtain⟨xs,vs,l',m,bj,T7,lR,dq⟩:=hrel;have c2:=dq.1.c2;by_cases hk:aC l'=2
  .have c2':wr.cell? ⟨b,2,M⟩=Y (I O 2):=by rw[c2,hk];rfl
   have HK:=hid hk;clear c2 hk;go_wp2_with fail;have Zh:l'.length<n:=by have:=lR.2.1;omega
   refine(im l' bj wr Zh dq.1 dq.2.1).mono ?_;intro e w1 hp;cases hr:st l' with
   |error er=>
    rw[hr]at hp;obtain⟨N,rfl,hf⟩:=hp;have aW:dh A st (l.length+1) [] l=.error er:=by
     rw[lR.2.2];cases m with
     |zero=>exact absurd lR.1 À
     |succ m=>unfold dh;rw[Á HK.out,hr]
    exact⟨rfl,bZ aW (bJ.ahead dq.2.2 ⟨N,rfl,hf⟩)⟩
   |ok xl=>
    obtain⟨x,l1⟩:=xl;rw[hr]at hp;obtain⟨v,rfl,ct1,hv,h1,x1⟩:=hp;obtain⟨tv,uv,rfl⟩:=Rt.iface hv;have HV:=hid hv;have HR:=hid hr;have kO:Hid (w1.ownsRow w.heap.size 233 1 u3 xs.length vs):=
     ED T7.1 x1 df
    clear hv hr;go_wp2_with (first
     |(at_builtin;refine wpList_append_own_at _ rfl _ _ 75 rfl w.heap.size 233 i0 .nilIface 1 16 underlying75 hi Kv kh ff rfl É _ _ _ rfl (kO.alloc _) ⟨w1.heap.size,0,M⟩ 1 1 [σ tv uv] rfl rfl (cell_one_new _ _ _) ?q1 ?q2 ?q3 ?q4 ?_))
    case q1=>intro u hu;simp at hu;subst hu;rfl
    case q2=>have:=lR.2.1;unfold maxLen;omega
    case q3=>have:=lR.2.1;omega
    case q4=>have:=dq.2.2.size;have:=x1.size;simp;omega
    intro v' w2 gO eo aat ZD;have AH:=qb eo;have eu:∀k,Value.ownBlock u3=Y k->w.heap.size<=k:=λk hk=>(nQ T7.1 k hk).1
    have QF:w.heap.size<=wr.heap.size:=dq.2.2.size;have Nb:Br Rt.T ct w.heap.size w2 v' (vs++[σ tv uv]) (xs++[x]) ct1:=
     Is Rt T7.1 T7.2 df QF x1 HV.out AH (by simpa using ZD)
    have py:Ext b w w2:=(dq.2.2.trans x1).grown AH eu;have aay:Rd b s m1 m2 l1 o ct1 w2:=h1.bH (AH.block b h1.lt (λe=>by have:=eu b e.symm;omega)) (λk _ hk eQ=>AH.block k hk (λe=>Wm kO.out É e.symm eQ));have hd:=da.out _ _ _ HR.out;have cP:iA b s w2<iA b s wr:=by rw[aay.rest,dq.1.rest];exact hd
    have A1:Hid (w2.ownsRow w.heap.size 233 1 v' (xs++[x]).length (vs++[σ tv uv])/\Br Rt.T ct w.heap.size w2 v' (vs++[σ tv uv]) (xs++[x]) ct1):=⟨by simpa using gO,Nb⟩;have A2:Hid (l1.length<m-1/\(xs++[x]).length+l1.length<=l.length/\dh A st (l.length+1) [] l=dh A st (m-1) (xs++[x]) l1):=by
     have h1:=lR.1;have h2:=lR.2.1;refine⟨À,by simp;omega,?_⟩;rw[lR.2.2];cases m with
     |zero=>omega
     |succ m=>
      conv=>lhs;unfold dh
      rw[Á HK.out,HR.out];rfl
    have A3:Hid (Rd b s m1 m2 l1 o ct1 w2/\Env b m1 m2 w2/\Ext b w w2):=⟨aay,hE.ext py,py⟩;clear gO eo aat ZD AH Nb;go_wp2_with fail;exact⟨⟨_,_,_,_,_,A1,A2,A3⟩,cP⟩
  .have n2:¬(((aC l':Nat):Int)=2):=À
   have b2:(((aC l':Nat):Int)==2)=false:=by simpa using n2
   have aW:Hid (dh A st (l.length+1) [] l=.ok (xs,l')):=by unfold Hid;rw[lR.2.2,IE hk]
   have iD:Hid (oq Rt.T ct w.heap.size wr.heap.size wr u3 xs bj):=Li Rt T7.1 T7.2;clear hk;generalize aC l'=kd at*;go_wp2_with fail;go_ret;exact fP aW.out iD dq.1 dq.2.2
def sC{Rp:nZ A}(Rt:kY A Rp)(b:Nat)(s:ByteArray)(m1 m2 o:Nat)(ct:Int×Int)(w:Wd)(r:Sp.R A.T):Ending->Wd->Prop:=
 nj (λct w' v x bj=>Rt.T ct w.heap.size w'.heap.size w' v x bj) b s m1 m2 o ct w r
theorem zp(h:aS l=Y k):k<8:=by obtain⟨c,_,_,h1,h2,rfl⟩:=dY h;omega
theorem tu{t:Sp.Bs}(h:Sp.tok l=t):Sp.take t l=.ok (Sp.next l):=by unfold Sp.take;rw[Á h]
theorem xF{t:Sp.Bs}(h:¬Sp.tok l=t):Sp.take t l=.error (2,l.length):=by unfold Sp.take;rw[Â h];rfl
theorem vD(h:aS l=M):dN l=.error (2,l.length):=by unfold dN;rw[h];rfl
theorem vp(h:aS l=Y k):dN l=.ok (k,Sp.next l):=by unfold dN;rw[h]
theorem ot{Rp:nZ A}(Rt:kY A Rp)(b:Nat)(s:ByteArray)(m1 m2 o:Nat)(ho:o<=12)(l:Sp.Bs)(ct:Int × Int)(w:Wd)(h:Rd b s m1 m2 l o (aD ct) w)(hE:Env b m1 m2 w) :
  Calls prog 161 #[ρ (Y ⟨b,0,M⟩),I O ct.1] w (sC Rt b s m1 m2 o ct w (cC A o l)):=by
 cases hn:aS l with
 |none=>
  have aW:Hid (cC A o l=.error (2,l.length)):=by unfold Hid cC;rw[vD hn]
  go_enter func161,ntmps161;go_wp2_with fail;refine(yM h hn).mono ?_;rintro e w1⟨N,rfl,hf⟩;exact⟨rfl,bZ aW.out ⟨N,rfl,hf⟩⟩
 |some k=>
  have hk:=zp hn;have e1:=vp hn;by_cases ht:Sp.tok (Sp.next l)=[61]
  .have e2:=tu ht
   cases hr:Sp.pS A o (Sp.next (Sp.next l)) with
   |error er=>
    have aW:Hid (cC A o l=.error er):=by unfold Hid cC;rw[e1];simp only;rw[e2];simp only;rw[hr]
    clear e1 e2;go_enter func161,ntmps161;go_wp2_with fail;refine(nT h hn).mono ?_;rintro e w1⟨rfl,h1,x1⟩;go_wp2_with fail;refine(dH h1 [61] ht).mono ?_;rintro e w2⟨rfl,h2,x2⟩;go_wp2_with fail;refine(gQ Rp b s m1 m2 o ho _ (aD ct) w2 h2 ((hE.ext x1).ext x2)).mono ?_;intro e w3 hp;rw[hr]at hp;obtain⟨N,rfl,hf⟩:=hp;exact⟨rfl,bZ aW.out (bJ.ahead (x1.trans x2) ⟨N,rfl,hf⟩)⟩
   |ok xl=>
    obtain⟨x,l3⟩:=xl;by_cases hs:Sp.tok l3=[59]
    .have aW:Hid (cC A o l=.ok (A.assign k x,Sp.next l3)):=by unfold Hid cC;rw[e1];simp only;rw[e2];simp only;rw[hr];simp only;rw[tu hs]
     clear e1 e2;go_enter func161,ntmps161;go_wp2_with fail;refine(nT h hn).mono ?_;rintro e w1⟨rfl,h1,x1⟩;go_wp2_with fail;refine(dH h1 [61] ht).mono ?_;rintro e w2⟨rfl,h2,x2⟩;go_wp2_with fail;refine(gQ Rp b s m1 m2 o ho _ (aD ct) w2 h2 ((hE.ext x1).ext x2)).mono ?_;intro e w3 hp;rw[hr]at hp;obtain⟨v,rfl,ct1,hv,h3,x3⟩:=hp;obtain⟨tv,uv,rfl⟩:=Rp.iface _ _ _ _ hv;have HV:=hid hv;clear hv hr;go_wp2_with fail;refine(dH h3 [59] hs).mono ?_;rintro e w4⟨rfl,h4,x4⟩;go_wp2_with fail;go_ret;exact fP aW.out (Rt.assign ct _ _ _ k _ _ ct1 hk HV.out) h4 (((x1.trans x2).trans x3).trans x4)
    .have aW:Hid (cC A o l=.error (2,l3.length)):=by unfold Hid cC;rw[e1];simp only;rw[e2];simp only;rw[hr];simp only;rw[xF hs]
     clear e1 e2;go_enter func161,ntmps161;go_wp2_with fail;refine(nT h hn).mono ?_;rintro e w1⟨rfl,h1,x1⟩;go_wp2_with fail;refine(dH h1 [61] ht).mono ?_;rintro e w2⟨rfl,h2,x2⟩;go_wp2_with fail;refine(gQ Rp b s m1 m2 o ho _ (aD ct) w2 h2 ((hE.ext x1).ext x2)).mono ?_;intro e w3 hp;rw[hr]at hp;obtain⟨v,rfl,ct1,hv,h3,x3⟩:=hp;clear hv hr;go_wp2_with fail;refine(nG h3 [59] hs).mono ?_;rintro e w4⟨N,rfl,hf⟩;exact⟨rfl,bZ aW.out (bJ.ahead ((x1.trans x2).trans x3) ⟨N,rfl,hf⟩)⟩
  .have aW:Hid (cC A o l=.error (2,(Sp.next l).length)):=by unfold Hid cC;rw[e1];simp only;rw[xF ht]
   clear e1;go_enter func161,ntmps161;go_wp2_with fail;refine(nT h hn).mono ?_;rintro e w1⟨rfl,h1,x1⟩;go_wp2_with fail;refine(nG h1 [61] ht).mono ?_;rintro e w2⟨N,rfl,hf⟩;exact⟨rfl,bZ aW.out (bJ.ahead x1 ⟨N,rfl,hf⟩)⟩
theorem Hb{Rp:nZ A}(Rt:kY A Rp)(b:Nat)(s:ByteArray)(m1 m2 o:Nat)(l:Sp.Bs)(ct:Int × Int)(w:Wd)(h:Rd b s m1 m2 l o (aD ct) w)(ht:Sp.tok l=vW) :
  Calls prog 157 #[ρ (Y ⟨b,0,M⟩),I O ct.1] w (sC Rt b s m1 m2 o ct w (gX A l)):=by
 cases hn:aS (Sp.next l) with
 |none=>
  have aW:Hid (gX A l=.error (2,(Sp.next l).length)):=by unfold Hid gX;rw[vD hn]
  go_enter func157,ntmps157;go_wp2_with fail;refine(dH h [114,101,97,100] ht).mono ?_;rintro e w1⟨rfl,h1,x1⟩;go_wp2_with fail;refine(yM h1 hn).mono ?_;rintro e w2⟨N,rfl,hf⟩;exact⟨rfl,bZ aW.out (bJ.ahead x1 ⟨N,rfl,hf⟩)⟩
 |some k=>
  have hk:=zp hn;have e1:=vp hn;by_cases hs:Sp.tok (Sp.next (Sp.next l))=[59]
  .have aW:Hid (gX A l=.ok (A.read k,Sp.next (Sp.next (Sp.next l)))):=by unfold Hid gX;rw[e1];simp only;rw[tu hs]
   clear e1;go_enter func157,ntmps157;go_wp2_with fail;refine(dH h [114,101,97,100] ht).mono ?_;rintro e w1⟨rfl,h1,x1⟩;go_wp2_with fail;refine(nT h1 hn).mono ?_;rintro e w2⟨rfl,h2,x2⟩;go_wp2_with fail;refine(dH h2 [59] hs).mono ?_;rintro e w3⟨rfl,h3,x3⟩;go_wp2_with fail;go_ret;exact fP aW.out (Rt.read ct _ _ _ k hk) h3 ((x1.trans x2).trans x3)
  .have aW:Hid (gX A l=.error (2,(Sp.next (Sp.next l)).length)):=by unfold Hid gX;rw[e1];simp only;rw[xF hs]
   clear e1;go_enter func157,ntmps157;go_wp2_with fail;refine(dH h [114,101,97,100] ht).mono ?_;rintro e w1⟨rfl,h1,x1⟩;go_wp2_with fail;refine(nT h1 hn).mono ?_;rintro e w2⟨rfl,h2,x2⟩;go_wp2_with fail;refine(nG h2 [59] hs).mono ?_;rintro e w3⟨N,rfl,hf⟩;exact⟨rfl,bZ aW.out (bJ.ahead (x1.trans x2) ⟨N,rfl,hf⟩)⟩
theorem ow{Rp:nZ A}(Rt:kY A Rp)(b:Nat)(s:ByteArray)(m1 m2 o:Nat)(ho:o<=12)(l:Sp.Bs)(ct:Int × Int)(w:Wd)(h:Rd b s m1 m2 l o (aD ct) w)(hE:Env b m1 m2 w)(ht:Sp.tok l=ml) :
  Calls prog 158 #[ρ (Y ⟨b,0,M⟩),I O ct.1] w (sC Rt b s m1 m2 o ct w (de A o l)):=by
 have df:=h.lt;cases hr:bo A o (Sp.next l) with
 |error er=>
  have aW:Hid (de A o l=.error er):=by unfold Hid de;rw[hr]
  go_enter func158,ntmps158;go_wp2_with fail;refine(dH h [97,115,115,101,114,116] ht).mono ?_;rintro e w1⟨rfl,h1,x1⟩;go_wp2_with fail;refine(gG h1).mono ?_;rintro e w1b⟨rfl,h1b,UF⟩;go_wp2_with fail;refine(gz Rp b s m1 m2 o ho _ (aL (aD ct)) w1b h1b ((hE.ext x1).ext UF)).mono ?_;intro e w2 hp;rw[hr]at hp;obtain⟨N,rfl,hf⟩:=hp;exact⟨rfl,bZ aW.out (bJ.ahead (x1.trans UF) ⟨N,rfl,hf⟩)⟩
 |ok cl=>
  obtain⟨⟨k,x,y⟩,l1⟩:=cl;by_cases hs:Sp.tok l1=[59]
  .have aW:Hid (de A o l=.ok (A.assert k x y,Sp.next l1)):=by unfold Hid de;rw[hr];simp only;rw[tu hs]
   go_enter func158,ntmps158;go_wp2_with fail;refine(dH h [97,115,115,101,114,116] ht).mono ?_;rintro e w1⟨rfl,h1,x1⟩;go_wp2_with fail;refine(gG h1).mono ?_;rintro e w1b⟨rfl,h1b,UF⟩;go_wp2_with fail;refine(gz Rp b s m1 m2 o ho _ (aL (aD ct)) w1b h1b ((hE.ext x1).ext UF)).mono ?_;intro e w2 hp;rw[hr]at hp;obtain⟨v,rfl,ct2,⟨tl,ul,tr,ur,ct1,rfl,hk,hl,AI⟩,h2,x2⟩:=hp;have HL:=hid hl;have sK:=hid AI;have Kq:k<6:=hk;clear hr hl AI hk;have H2:Hid (Rd b s m1 m2 l1 o ct2 (w2.alloc (L #[I O (k:Nat),σ tl ul,σ tr ur] 282))):=h2.ext _;go_wp2_with fail;refine(dH H2.out [59] hs).mono ?_;rintro e w3⟨rfl,h3,x3⟩;have eQ:=nC x3 h2.lt;have k0:=cell_of eQ 0 (v:=I O (k:Nat)) rfl;have k1:=cell_of eQ 1 (v:=σ tl ul) rfl;have k2:=cell_of eQ 2 (v:=σ tr ur) rfl;have X:Hid (Ext b w w3):=(((x1.trans UF).trans x2).alloc _).trans x3;clear eQ x3;go_wp2_with fail;go_ret;exact fP aW.out (Rt.assert ct _ _ _ k _ _ ct1 _ _ ct2 Kq HL.out sK.out) h3 X.out
  .have aW:Hid (de A o l=.error (2,l1.length)):=by unfold Hid de;rw[hr];simp only;rw[xF hs]
   go_enter func158,ntmps158;go_wp2_with fail;refine(dH h [97,115,115,101,114,116] ht).mono ?_;rintro e w1⟨rfl,h1,x1⟩;go_wp2_with fail;refine(gG h1).mono ?_;rintro e w1b⟨rfl,h1b,UF⟩;go_wp2_with fail;refine(gz Rp b s m1 m2 o ho _ (aL (aD ct)) w1b h1b ((hE.ext x1).ext UF)).mono ?_;intro e w2 hp;rw[hr]at hp;obtain⟨v,rfl,ct2,⟨tl,ul,tr,ur,ct1,rfl,hk,hl,AI⟩,h2,x2⟩:=hp;clear hr hl AI hk;have H2:Hid (Rd b s m1 m2 l1 o ct2 (w2.alloc (L #[I O (k:Nat),σ tl ul,σ tr ur] 282))):=h2.ext _;go_wp2_with fail;refine(nG H2.out [59] hs).mono ?_;rintro e w3⟨N,rfl,hf⟩;exact⟨rfl,bZ aW.out (bJ.ahead (((x1.trans UF).trans x2).alloc _) ⟨N,rfl,hf⟩)⟩
def sZ{Rp:nZ A}(Rt:kY A Rp)(b:Nat)(s:ByteArray)(m1 m2 o n:Nat)(aV:Sp.Bs->Sp.R (List A.T)):Prop:=
 ∀l ct w,l.length<n->Rd b s m1 m2 l o ct w->Env b m1 m2 w->Calls prog 188 #[ρ (Y ⟨b,0,M⟩)] w (nj (λct w' v xs bj=>oq Rt.T ct w.heap.size w'.heap.size w' v xs bj) b s m1 m2 o ct w (aV l))
theorem EN{Rp:nZ A}(Rt:kY A Rp)(b:Nat)(s:ByteArray)(m1 m2 o n:Nat)(ho:o<=12)(st:Sp.Bs->Sp.R A.T)(da:∀l x l1,st l=.ok (x,l1)->l1.length<l.length)
  (im:o<12->tH Rt 113 b s m1 m2 (o+1) n st):sZ Rt b s m1 m2 o (n+1) (aR A st o):=by
 intro l ct w hl h hE;have df:=h.lt;by_cases ht:Sp.tok l=[123]
 .by_cases ud:o=12
  .subst ud
   have hr:Hid (aR A st 12 l=.error (3,l.length)):=by unfold Hid aR Sp.enter;rw[Á ht,Á rfl];rfl
   go_enter func188,ntmps188;go_wp2_with fail;refine(so h [123] ht).mono ?_;rintro e w1⟨N,rfl,hf⟩;exact⟨rfl,bZ hr.out ⟨N,rfl,hf⟩⟩
  .have Q8:Sp.enter [123] o l=.ok (Sp.next l):=by unfold Sp.enter;rw[Á ht,Â ud]
   have WI:=aJ ht Ä;have hs:=im À;cases hr:dh A st ((Sp.next l).length+1) [] (Sp.next l) with
   |error er=>
    have aW:Hid (aR A st o l=.error er):=by unfold Hid aR;rw[Q8];simp only;rw[hr]
    go_enter func188,ntmps188;go_wp2_with fail;refine(jP h À [123] ht).mono ?_;rintro e w1⟨rfl,h1,x1⟩;go_wp2_with fail;refine(gR Rt b s m1 m2 (o+1) n st da hs (Sp.next l) ct w1 À h1 (hE.ext x1)).mono ?_;intro e w2 hp;rw[hr]at hp;obtain⟨N,rfl,hf⟩:=hp;exact⟨rfl,bZ aW.out (bJ.ahead x1 ⟨N,rfl,hf⟩)⟩
   |ok xl=>
    obtain⟨xs,l2⟩:=xl;by_cases DH:Sp.tok l2=[125]
    .have aW:Hid (aR A st o l=.ok (xs,Sp.next l2)):=by unfold Hid aR;rw[Q8];simp only;rw[hr];simp only;unfold Sp.take;rw[Á DH]
     go_enter func188,ntmps188;go_wp2_with fail;refine(jP h À [123] ht).mono ?_;rintro e w1⟨rfl,h1,x1⟩;go_wp2_with fail;refine(gR Rt b s m1 m2 (o+1) n st da hs (Sp.next l) ct w1 À h1 (hE.ext x1)).mono ?_;intro e w2 hp;rw[hr]at hp;obtain⟨v,rfl,ct1,hv,h2,x2⟩:=hp;have HV:=hid hv;clear hv hr;go_wp2_with fail;refine(dH h2 [125] DH).mono ?_;rintro e w3⟨rfl,h3,x3⟩;have c4:w3.cell? ⟨b,4,M⟩=Y (I O ((o:Int)+1)):=h3.c4;have f4:=h3.fz 4;have DH:=xO h3 o (o:Int) rfl;have HS:=hid DH;clear DH;have HB:Hid (oq Rt.T ct w.heap.size (w3.setCell ⟨b,4,M⟩ (I O (o:Int))).heap.size (w3.setCell ⟨b,4,M⟩ (I O (o:Int))) v xs ct1):=
      oq.mono Rt HV.out x1.size (by have:=x3.size;simp[World.setCell];omega) ((x3.trans HS.2).Ig È (.inl (by have:=x1.size;omega)))
     go_wp2_with fail;go_ret;exact fP aW.out HB HS.1 (((x1.trans x2).trans x3).trans HS.2)
    .have aW:Hid (aR A st o l=.error (2,l2.length)):=by unfold Hid aR;rw[Q8];simp only;rw[hr];simp only;unfold Sp.take;rw[Â DH];rfl
     go_enter func188,ntmps188;go_wp2_with fail;refine(jP h À [123] ht).mono ?_;rintro e w1⟨rfl,h1,x1⟩;go_wp2_with fail;refine(gR Rt b s m1 m2 (o+1) n st da hs (Sp.next l) ct w1 À h1 (hE.ext x1)).mono ?_;intro e w2 hp;rw[hr]at hp;obtain⟨v,rfl,ct1,hv,h2,x2⟩:=hp;clear hv hr;go_wp2_with fail;refine(nG h2 [125] DH).mono ?_;rintro e w3⟨N,rfl,hf⟩;exact⟨rfl,bZ aW.out (bJ.ahead (x1.trans x2) ⟨N,rfl,hf⟩)⟩
 .have hr:Hid (aR A st o l=.error (2,l.length)):=by
   unfold Hid aR Sp.enter;rw[Â ht];rfl
  go_enter func188,ntmps188;go_wp2_with fail;refine(BF h [123] ht).mono ?_;rintro e w1⟨N,rfl,hf⟩;exact⟨rfl,bZ hr.out ⟨N,rfl,hf⟩⟩
theorem Rd.drew{s:ByteArray}(h:Rd b s m1 m2 l o ct w):Rd b s m1 m2 l o ct w.drew:=h.bH rfl (λ_ _ _ _=>rfl)
theorem eH{T:Int×Int->Nat->Nat->Wd->Value->τ->Int×Int->Prop}{xs:List τ}(h:oq T ct lo hi w v xs bj):∃a n c,v=Z a n c:=by
 obtain⟨vs,f,h1,_⟩:=h
 rcases h1.2 with⟨rfl,_⟩|⟨g,cap,cur,rfl,_⟩
 .exact⟨M,0,0,rfl⟩
 .exact⟨_,_,_,rfl⟩
theorem lh{Rp:nZ A}(Rt:kY A Rp)(b:Nat)(s:ByteArray)(m1 m2 o n:Nat)(ho:o<=12)(aV:Sp.Bs->Sp.R (List A.T))(iD:sZ Rt b s m1 m2 o n aV)
  (l:Sp.Bs) (ct:Int×Int) (w:Wd) (hl:l.length<=n) (h:Rd b s m1 m2 l o (aD ct) w) (hE:Env b m1 m2 w) (ht:Sp.tok l=pZ) (wK:∀c l1,bo A o (Sp.next l)=.ok (c,l1)->l1.length<l.length):
  Calls prog 160 #[ρ (Y ⟨b,0,M⟩),I O ct.1] w (sC Rt b s m1 m2 o ct w (eF A aV o l)):=by
 have df:=h.lt;cases hr:bo A o (Sp.next l) with
 |error er=>
  have aW:Hid (eF A aV o l=.error er):=by unfold Hid eF;rw[hr]
  go_enter func160,ntmps160;go_wp2_with fail;refine(dH h [119,104,105,108,101] ht).mono ?_;rintro e w1⟨rfl,h1,x1⟩;go_wp2_with fail;refine(gz Rp b s m1 m2 o ho _ (aD ct) w1 h1 (hE.ext x1)).mono ?_;intro e w2 hp;rw[hr]at hp;obtain⟨N,rfl,hf⟩:=hp;exact⟨rfl,bZ aW.out (bJ.ahead x1 ⟨N,rfl,hf⟩)⟩
 |ok cl=>
  obtain⟨⟨k,x,y⟩,l1⟩:=cl;have xS:=wK _ _ hr;cases hb:aV l1 with
  |error er=>
   have aW:Hid (eF A aV o l=.error er):=by unfold Hid eF;rw[hr];simp only;rw[hb]
   go_enter func160,ntmps160;go_wp2_with fail;refine(dH h [119,104,105,108,101] ht).mono ?_;rintro e w1⟨rfl,h1,x1⟩;go_wp2_with fail;refine(gz Rp b s m1 m2 o ho _ (aD ct) w1 h1 (hE.ext x1)).mono ?_;intro e w2 hp;rw[hr]at hp;obtain⟨v,rfl,ct2,⟨tl,ul,tr,ur,ct1,rfl,hk,Kx,AI⟩,h2,x2⟩:=hp;have H2:Hid (Rd b s m1 m2 l1 o ct2 (w2.alloc (L #[I O (k:Nat),σ tl ul,σ tr ur] 282)).drew):=(h2.ext _).drew;have HE:Hid (Env b m1 m2 (w2.alloc (L #[I O (k:Nat),σ tl ul,σ tr ur] 282)).drew):=((hE.ext x1).ext x2).ext ((Ext.refl b w2).alloc _).drew;have Tq:=h2.lt;clear hr Kx AI hk wK;go_wp2_with fail;have hc:=iD l1 ct2 _ À H2.out HE.out;rw[hb]at hc
   go_region_dies
   all_goals
    refine hc.mono ?_;rintro e w3⟨N,rfl,hf⟩;exact⟨rfl,bZ aW.out (bJ.ahead ((x1.trans x2).alloc _).drew ⟨N,rfl,hf⟩)⟩
  |ok bl=>
   obtain⟨xs,l2⟩:=bl;have aW:Hid (eF A aV o l=.ok (A.loop k x y xs,l2)):=by unfold Hid eF;rw[hr];simp only;rw[hb]
   go_enter func160,ntmps160;go_wp2_with fail;refine(dH h [119,104,105,108,101] ht).mono ?_;rintro e w1⟨rfl,h1,x1⟩;go_wp2_with fail;refine(gz Rp b s m1 m2 o ho _ (aD ct) w1 h1 (hE.ext x1)).mono ?_;intro e w2 hp;rw[hr]at hp;obtain⟨v,rfl,ct2,⟨tl,ul,tr,ur,ct1,rfl,hk,Kx,AI⟩,h2,x2⟩:=hp;have HL:=hid Kx;have sK:=hid AI;have Kq:k<6:=hk;have H2:Hid (Rd b s m1 m2 l1 o ct2 (w2.alloc (L #[I O (k:Nat),σ tl ul,σ tr ur] 282)).drew):=(h2.ext _).drew;have HE:Hid (Env b m1 m2 (w2.alloc (L #[I O (k:Nat),σ tl ul,σ tr ur] 282)).drew):=((hE.ext x1).ext x2).ext ((Ext.refl b w2).alloc _).drew;have Tq:=h2.lt;clear hr Kx AI hk wK;go_wp2_with fail;have hc:=iD l1 ct2 _ À H2.out HE.out;rw[hb]at hc
   go_region_with (go_at_call 188;go_must (refine hc.mono ?_);rintro e w3 ⟨vb,rfl,nL,Dv,h3,x3⟩;obtain⟨a3,n3,c3,rfl⟩:=eH Dv;have eQ:=nC (c:=#[I O (k:Nat),σ tl ul,σ tr ur]) (t:=282) (f:=(0,0)) (w:=w2) (w':=w3) ⟨x3.os,x3.tape,x3.output,x3.size,x3.block⟩ Tq;have k0:=cell_of eQ 0 (v:=I O (k:Nat)) rfl;have k1:=cell_of eQ 1 (v:=σ tl ul) rfl;have k2:=cell_of eQ 2 (v:=σ tr ur) rfl)
   all_goals
    have HB:Hid (oq Rt.T ct2 w.heap.size w3.heap.size w3 (Z a3 n3 c3) xs nL):=oq.mono Rt Dv (by have:=x1.size;have:=x2.size;show w.heap.size<=(w2.alloc _).heap.size;simp;omega) È (eS.refl _ _ _);have X:Hid (Ext b w w3):=(((x1.trans x2).alloc _).drew).trans x3;clear Dv x3 hc k0 k1 k2 eQ;go_wp2_with fail;go_ret;exact fP aW.out (Rt.loop ct _ _ _ k _ _ ct1 _ _ ct2 _ _ nL Kq HL.out sK.out HB.out) h3 X.out
theorem eS.setCell(h:eS lo hi w w'){p:Addr}(hp:p.block<lo∨hi<=p.block)(u:Value):eS lo hi w (w'.setCell p u):=
 λk h1 h2 hn=>by rw[Æ _ _ _ _ À];exact h k h1 h2 hn
def ku(p:Int)(k:Nat)(x y bv cv:Value)(he:Bool):Array Value:=#[I O p,I O (k:Nat),x,y,bv,cv,U he]
theorem R7(h:Bk w N (ku p k x y bv cv he) 287)(v:Value):(w.setCell ⟨N,4,M⟩ v).heap[N]?=Y (L (ku p k x y v cv he) 287):=by rw[ai h 4 v];rfl
theorem SE(h:Bk w N (ku p k x y bv cv he) 287)(v:Value):(w.setCell ⟨N,5,M⟩ v).heap[N]?=Y (L (ku p k x y bv v he) 287):=by rw[ai h 5 v];rfl
theorem RB(h:Bk w N (ku p k x y bv cv he) 287)(Ad:Bool):(w.setCell ⟨N,6,M⟩ (U Ad)).heap[N]?=Y (L (ku p k x y bv cv Ad) 287):=by rw[ai h 6 (U Ad)];rfl
theorem kB{Rp:nZ A}(Rt:kY A Rp)(b:Nat)(s:ByteArray)(m1 m2 o n:Nat)(ho:o<=12)(aV:Sp.Bs->Sp.R (List A.T))(iD:sZ Rt b s m1 m2 o n aV)(I5:∀l x l1,aV l=.ok (x,l1)->l1.length<=l.length)
  (l:Sp.Bs) (ct:Int×Int) (w:Wd) (hl:l.length<=n) (h:Rd b s m1 m2 l o (aD ct) w) (hE:Env b m1 m2 w) (ht:Sp.tok l=TO) (wK:∀c l1,bo A o (Sp.next l)=.ok (c,l1)->l1.length<l.length):
  Calls prog 159 #[ρ (Y ⟨b,0,M⟩),I O ct.1] w (sC Rt b s m1 m2 o ct w (Sp.Ð A aV o l)):=by
 have df:=h.lt;cases hr:bo A o (Sp.next l) with
 |error er=>
  have aW:Hid (Sp.Ð A aV o l=.error er):=by unfold Hid Sp.Ð;rw[hr]
  go_enter func159,ntmps159;go_wp2_with fail;refine(dH h [105,102] ht).mono ?_;rintro e w1⟨rfl,h1,x1⟩;go_wp2_with fail;refine(gz Rp b s m1 m2 o ho _ (aD ct) w1 h1 (hE.ext x1)).mono ?_;intro e w2 hp;rw[hr]at hp;obtain⟨N,rfl,hf⟩:=hp;exact⟨rfl,bZ aW.out (bJ.ahead x1 ⟨N,rfl,hf⟩)⟩
 |ok cl=>
  obtain⟨⟨k,x,y⟩,l1⟩:=cl;have xS:=wK _ _ hr;clear wK;go_enter func159,ntmps159;go_wp2_with fail;refine(dH h [105,102] ht).mono ?_;rintro e w1⟨rfl,h1,x1⟩;go_wp2_with fail;refine(gz Rp b s m1 m2 o ho _ (aD ct) w1 h1 (hE.ext x1)).mono ?_;intro e w2 hp;rw[hr]at hp;obtain⟨v,rfl,ct2,⟨tl,ul,tr,ur,ct1,rfl,hk,Kx,AI⟩,h2,x2⟩:=hp;have HL:=hid Kx;have sK:=hid AI;have Kq:k<6:=hk;have H2:Hid (Rd b s m1 m2 l1 o ct2 (w2.alloc (L #[I O ct.1,I O (k:Nat),σ tl ul,σ tr ur,Z M 0 0,Z M 0 0,U false] 287))):=h2.ext _;have HX:Hid (Ext b w (w2.alloc (L #[I O ct.1,I O (k:Nat),σ tl ul,σ tr ur,Z M 0 0,Z M 0 0,U false] 287))):=(x1.trans x2).alloc _;have Tq:=h2.lt;have Rb:w.heap.size<=w2.heap.size:=by have:=x1.size;have:=x2.size;omega
  have HR:=hid hr;clear Kx AI hk hr;go_wp2_with fail;have hc:=iD l1 ct2 _ À H2.out (hE.ext HX.out);cases hb:aV l1 with
  |error er=>
   have aW:Hid (Sp.Ð A aV o l=.error er):=by unfold Hid Sp.Ð;rw[HR.out];simp only;rw[hb]
   rw[hb]at hc;refine hc.mono ?_;rintro e w3⟨N,rfl,hf⟩;exact⟨rfl,bZ aW.out (bJ.ahead HX.out ⟨N,rfl,hf⟩)⟩
  |ok bl=>
   obtain⟨xs,l2⟩:=bl;rw[hb]at hc;refine hc.mono ?_;rintro e w3⟨vb,rfl,nL,Dv,h3,x3⟩;obtain⟨a3,n3,c3,rfl⟩:=eH Dv;have eQ:w3.heap[w2.heap.size]?=Y (L (ku ct.1 k (σ tl ul) (σ tr ur) (Z M 0 0) (Z M 0 0) false) 287):=nC x3 Tq;have k3:=cell_of eQ 4 (v:=Z M 0 0) rfl;have f3:=ay eQ 4;have AK:=R7 eQ (Z a3 n3 c3);have H4:Hid (Rd b s m1 m2 l2 o nL (w3.setCell ⟨w2.heap.size,4,M⟩ (Z a3 n3 c3))):=h3.eG (p:=⟨w2.heap.size,4,M⟩) (by show w2.heap.size≠b;omega) (mf eQ É) _;have X4:Hid (Ext b w (w3.setCell ⟨w2.heap.size,4,M⟩ (Z a3 n3 c3))):=(HX.trans x3).setCell (p:=⟨w2.heap.size,4,M⟩) (.inr Rb) _;have Ko:Hid (oq Rt.T ct2 (w2.heap.size+1) w3.heap.size (w3.setCell ⟨w2.heap.size,4,M⟩ (Z a3 n3 c3)) (Z a3 n3 c3) xs nL):=oq.mono Rt Dv Ä È ((eS.refl _ _ _).setCell (p:=⟨w2.heap.size,4,M⟩) (.inl (by show w2.heap.size<(w2.alloc _).heap.size;simp)) _);have abk:w2.heap.size<w3.heap.size:=ah eQ;have hdb:=I5 _ _ _ hb;have Nf:=hid hb;have cc3:(w3.setCell ⟨w2.heap.size,4,M⟩ (Z a3 n3 c3)).cell? ⟨b,3,M⟩=Y (χ ⟨(Sp.tok l2).toArray⟩):=H4.c3;clear Dv hb hc x3 h3 eQ;by_cases Nb:Sp.tok l2=lI
   .have abb:(w3.setCell ⟨w2.heap.size,4,M⟩ (Z a3 n3 c3)).cell? ⟨b,3,M⟩=Y (χ ⟨#[101,108,115,101]⟩):=by rw[cc3,Nb];rfl
    clear cc3;have HEL:Hid (Sp.tok l2=[101,108,115,101]):=Nb;go_wp2_with fail;clear k3 f3 abb;have aac:w3.heap.size=(w3.setCell ⟨w2.heap.size,4,M⟩ (Z a3 n3 c3)).heap.size:=by simp[World.setCell]
    rw[aac]at Ko abk;clear aac;generalize w3.setCell ⟨w2.heap.size,4,M⟩ (Z a3 n3 c3)=w4 at*;refine(dH H4.out [101,108,115,101] HEL.out).mono ?_;rintro e w5⟨rfl,h5,x5⟩;have QN:w5.heap[w2.heap.size]?=Y (L (ku ct.1 k (σ tl ul) (σ tr ur) (Z a3 n3 c3) (Z M 0 0) false) 287):=by exact x5.bH AK À (fK É)
    have k5:=cell_of QN 6 (v:=U false) rfl;have f5:=ay QN 6;have aaq:=RB QN true;have H6:Hid (Rd b s m1 m2 (Sp.next l2) o nL (w5.setCell ⟨w2.heap.size,6,M⟩ (U true))):=h5.eG (p:=⟨w2.heap.size,6,M⟩) (by show w2.heap.size≠b;omega) (mf QN É) _;have X6:Hid (Ext b w (w5.setCell ⟨w2.heap.size,6,M⟩ (U true))):=(X4.trans x5).setCell (p:=⟨w2.heap.size,6,M⟩) (.inr Rb) _;have HB6:Hid (oq Rt.T ct2 (w2.heap.size+1) w4.heap.size (w5.setCell ⟨w2.heap.size,6,M⟩ (U true)) (Z a3 n3 c3) xs nL):=oq.mono Rt Ko.out È È ((x5.Ig (lo:=w2.heap.size+1) È (.inl À)).setCell (p:=⟨w2.heap.size,6,M⟩) (.inl (Nat.lt_succ_self _)) _);have aa2:w4.heap.size<=(w5.setCell ⟨w2.heap.size,6,M⟩ (U true)).heap.size:=by have:=x5.size;simp[World.setCell];omega
    have WI:=aJ HEL.out Ä;clear QN h5 x5 Ko H4 X4 AK;go_wp2_with fail;clear k5 f5;generalize w5.setCell ⟨w2.heap.size,6,M⟩ (U true)=w6 at*;have hc:=iD (Sp.next l2) nL w6 À H6.out (hE.ext X6.out);cases hb:aV (Sp.next l2) with
    |error er=>
     have aW:Hid (Sp.Ð A aV o l=.error er):=by unfold Hid Sp.Ð;rw[HR.out];simp only;rw[Nf.out];simp only;rw[Á Nb,hb]
     rw[hb]at hc;refine hc.mono ?_;rintro e w7⟨N,rfl,hf⟩;exact⟨rfl,bZ aW.out (bJ.ahead X6.out ⟨N,rfl,hf⟩)⟩
    |ok cl=>
     obtain⟨ys,l3⟩:=cl;have aW:Hid (Sp.Ð A aV o l=.ok (A.ite k x y xs (Y ys),l3)):=by unfold Hid Sp.Ð;rw[HR.out];simp only;rw[Nf.out];simp only;rw[Á Nb,hb]
     rw[hb]at hc;refine hc.mono ?_;rintro e w7⟨vc,rfl,vk,hvc,h7,x7⟩;obtain⟨a7,n7,c7,rfl⟩:=eH hvc;have abr:=ah aaq;have QM:w7.heap[w2.heap.size]?=Y (L (ku ct.1 k (σ tl ul) (σ tr ur) (Z a3 n3 c3) (Z M 0 0) true) 287):=by exact x7.bH aaq À (fK É)
     have k7:=cell_of QM 5 (v:=Z M 0 0) rfl;have f7:=ay QM 5;have F7:=SE QM (Z a7 n7 c7);have q0:=cell_of F7 0 (v:=I O ct.1) rfl;have q1:=cell_of F7 1 (v:=I O (k:Nat)) rfl;have q2:=cell_of F7 2 (v:=σ tl ul) rfl;have q3:=cell_of F7 3 (v:=σ tr ur) rfl;have q4:=cell_of F7 4 (v:=Z a3 n3 c3) rfl;have q5:=cell_of F7 5 (v:=Z a7 n7 c7) rfl;have q6:=cell_of F7 6 (v:=U true) rfl;have H8:Hid (Rd b s m1 m2 l3 o vk (w7.setCell ⟨w2.heap.size,5,M⟩ (Z a7 n7 c7))):=h7.eG (p:=⟨w2.heap.size,5,M⟩) (by show w2.heap.size≠b;omega) (mf QM É) _;have X8:Hid (Ext b w (w7.setCell ⟨w2.heap.size,5,M⟩ (Z a7 n7 c7))):=(X6.trans x7).setCell (p:=⟨w2.heap.size,5,M⟩) (.inr Rb) _;have aa9:w7.heap.size<=(w7.setCell ⟨w2.heap.size,5,M⟩ (Z a7 n7 c7)).heap.size:=by simp[World.setCell]
     have WU:Hid (oq Rt.T ct2 w.heap.size (w7.setCell ⟨w2.heap.size,5,M⟩ (Z a7 n7 c7)).heap.size (w7.setCell ⟨w2.heap.size,5,M⟩ (Z a7 n7 c7)) (Z a3 n3 c3) xs nL):=
      oq.mono Rt HB6.out À (by have:=x7.size;omega) ((x7.Ig (lo:=w2.heap.size+1) aa2 (.inl À)).setCell (p:=⟨w2.heap.size,5,M⟩) (.inl (Nat.lt_succ_self _)) _)
     have HC8:Hid (oq Rt.T nL w.heap.size (w7.setCell ⟨w2.heap.size,5,M⟩ (Z a7 n7 c7)).heap.size (w7.setCell ⟨w2.heap.size,5,M⟩ (Z a7 n7 c7)) (Z a7 n7 c7) ys vk):=
      oq.mono Rt hvc À aa9 ((eS.refl _ _ _).setCell (p:=⟨w2.heap.size,5,M⟩) (.inl (by show w2.heap.size<w6.heap.size;omega)) _)
     clear hvc hb hc F7 QM h7 x7 HB6;go_wp2_with fail;go_ret;exact fP aW.out (Rt.iteElse ct _ _ _ k _ _ ct1 _ _ ct2 _ _ nL _ _ vk Kq HL.out sK.out WU.out HC8.out) H8.out X8.out
   .have aW:Hid (Sp.Ð A aV o l=.ok (A.ite k x y xs M,l2)):=by unfold Hid Sp.Ð;rw[HR.out];simp only;rw[Nf.out];simp only;rw[Â Nb]
    have db:(Sp.tok l2==[101,108,115,101])=false:=iz Nb;have q0:=cell_of AK 0 (v:=I O ct.1) rfl;have q1:=cell_of AK 1 (v:=I O (k:Nat)) rfl;have q2:=cell_of AK 2 (v:=σ tl ul) rfl;have q3:=cell_of AK 3 (v:=σ tr ur) rfl;have q4:=cell_of AK 4 (v:=Z a3 n3 c3) rfl;have q5:=cell_of AK 5 (v:=Z M 0 0) rfl;have q6:=cell_of AK 6 (v:=U false) rfl;have WU:Hid (oq Rt.T ct2 w.heap.size (w3.setCell ⟨w2.heap.size,4,M⟩ (Z a3 n3 c3)).heap.size (w3.setCell ⟨w2.heap.size,4,M⟩ (Z a3 n3 c3)) (Z a3 n3 c3) xs nL):=
     oq.mono Rt Ko.out À (by simp[World.setCell]) (eS.refl _ _ _)
    clear AK Ko Nb;go_wp2_with fail;go_ret;exact fP aW.out (Rt.ite ct _ _ _ k _ _ ct1 _ _ ct2 _ _ nL Kq HL.out sK.out WU.out) H4.out X4.out
end
namespace Sp
section
variable{A:fE}
variable{o k:Nat}
variable{l l1:Bs}
theorem O2{x:A.S}(h:pS A o l=.ok (x,l1)):l1.length<l.length:=
 JB (jz _ _) l x l1 h
theorem lH{c:Nat×A.S×A.S}(h:bo A o l=.ok (c,l1)):l1.length<l.length:=by
 unfold bo at h;split at h
 .rename_i x l2 hr
  have h1:=O2 hr;split at h
  .split at h
   .rename_i y l3 pD
    have h2:=O2 pD;have h3:=cr l2;cases h;omega
   .cases h
  .cases h
 .cases h
theorem Es(h:dN l=.ok (k,l1)):l1.length<l.length:=by obtain⟨hk,rfl⟩:=gP h;exact gl (dj (.inl (fL hk)))
theorem sQ{t:Bs}(h:take t l=.ok l1):l1.length<=l.length:=by obtain⟨_,rfl⟩:=cd h;exact cr l
theorem FH{st:Bs->R A.T}(hs:∀l x l1,st l=.ok (x,l1)->l1.length<l.length):∀(m:Nat) (xs:List A.T) (l:Bs) (ys:List A.T) (l1:Bs),dh A st m xs l=.ok (ys,l1)->l1.length<=l.length
 |0,xs,l,ys,l1,h=>by unfold dh at h;cases h;exact È
 |m+1,xs,l,ys,l1,h=>by
  unfold dh at h;split at h
  .split at h
   .rename_i x l2 hr
    have:=hs _ _ _ hr;have:=FH hs m _ _ _ _ h;omega
   .cases h
  .cases h;exact È
theorem uL{st:Bs->R A.T}(hs:∀l x l1,st l=.ok (x,l1)->l1.length<l.length){xs:List A.T}(h:aR A st o l=.ok (xs,l1)):l1.length<l.length:=by
 unfold aR at h;split at h
 .rename_i l2 hr
  obtain⟨ht,_,rfl⟩:=cI hr;have:=aJ ht Ä;split at h
  .rename_i ys l3 pD
   have:=FH hs _ _ _ _ _ pD;split at h
   .rename_i l4 DL
    have:=sQ DL;cases h;omega
   .cases h
  .cases h
 .cases h
theorem ld:∀(n o:Nat) (l:Bs) (x:A.T) (l1:Bs),bL A n o l=.ok (x,l1)->l1.length<l.length
 |0,o,l,x,l1,h=>by unfold bL bad at h;cases h
 |n+1,o,l,x,l1,h=>by
  have hb:∀l xs l1,aR A (bL A n (o+1)) o l=.ok (xs,l1)->l1.length<l.length:=λl xs l1 h=>uL (ld n (o+1)) h
  have hn:=cr l;unfold bL at h;split at h
  .unfold gX at h
   split at h
   .rename_i k l2 hr
    have:=Es hr;split at h
    .rename_i l3 pD
     have:=sQ pD;cases h;omega
    .cases h
   .cases h
  .split at h
   .unfold de at h
    split at h
    .rename_i k x y l2 hr
     have:=lH hr;split at h
     .rename_i l3 pD
      have:=sQ pD;cases h;omega
     .cases h
    .cases h
   .split at h
    .unfold Ð at h
     split at h
     .rename_i k x y l2 hr
      have:=lH hr;split at h
      .rename_i xs l3 pD
       have:=hb _ _ _ pD;split at h
       .split at h
        .rename_i ys l4 DL
         have:=hb _ _ _ DL;have:=cr l3;cases h;omega
        .cases h
       .cases h;omega
      .cases h
     .cases h
    .split at h
     .unfold eF at h
      split at h
      .rename_i k x y l2 hr
       have:=lH hr;split at h
       .rename_i xs l3 pD
        have:=hb _ _ _ pD;cases h;omega
       .cases h
      .cases h
     .unfold cC at h
      split at h
      .rename_i k l2 hr
       have:=Es hr;split at h
       .rename_i l3 pD
        have:=sQ pD;split at h
        .rename_i x l4 DL
         have:=O2 DL;split at h
         .rename_i l5 tS
          have:=sQ tS;cases h;omega
         .cases h
        .cases h
       .cases h
      .cases h
end
end Sp
end Go.Proofs.YtiopfihjmkfdmabGreatDoor
