import Derived.Test.YtiopfihjmkfdmaaGreatDoorR4
namespace Go.Proofs.YtiopfihjmkfdmaaGreatDoor
open Option renaming none→M,some→Y
open Go.Value renaming pointer→ρ,tuple→φ,string→χ,int→I,agg→J,iface→σ,bool→U,slice→Z
open Go.Ending renaming returned→υ
open Go.IntKind renaming i64→O,i16→ψ
open Go.Obj renaming cells→L
open Go.Proofs.Tryz Sp
open Go.RowKit
set_option maxRecDepth 100000
set_option maxHeartbeats 16000000
section
variable{b m1 m2 o k m j N lo hi BC n base:Nat}
variable{s:ByteArray}
variable{l l':Sp.Bs}
variable{ct aX ct1 ct2:Int × Int}
variable{w w' a wr w1 w2:Wd}
variable{A:eR}
variable{t e:TypeId}
variable{f er:Nat × Nat}
variable{x y v a0 a1 a2 v' u:Value}
variable{α τ:Type}
variable{vs:List Value}
theorem di(h:Rd b s m1 m2 l o ct w)(t:Sp.Bs)(ht:Sp.tok l=t)(hd:t.head?.any bx=false:=by decide) :
  Calls prog 202 #[ρ (Y ⟨b,0,M⟩),χ ⟨t.toArray⟩] w fun e w'=>e=υ (φ #[])/\Rd b s m1 m2 (Sp.next l) o ct w'/\Ext b w w':=by
 go_enter func202,ntmps202;go_wp2_with fail;refine(AV h t ht).mono ?_;rintro e w'⟨rfl,rfl⟩;go_wp2_with fail;refine(gQ h (tF ht hd)).mono ?_;rintro e w'⟨rfl,h1,x1⟩;go_wp2_with fail
 go_end0
 exact⟨rfl,h1,x1⟩
theorem mw(h:Rd b s m1 m2 l o ct w)(t:Sp.Bs)(ht:Sp.tok l≠t) :
  Calls prog 202 #[ρ (Y ⟨b,0,M⟩),χ ⟨t.toArray⟩] w fun e w'=>bC s b w (2,l.length) e w':=by
 go_enter func202,ntmps202;go_wp2_with fail;refine(Db h t ht).mono ?_;rintro e w' hf;obtain⟨N,rfl,hr⟩:=hf;exact⟨rfl,N,rfl,hr⟩
theorem u5(h:Rd b s m1 m2 l o ct w)(o':Nat)(oi:Int)(ho:oi=o') :
  Rd b s m1 m2 l o' ct (w.setCell ⟨b,4,M⟩ (I O oi))/\Ext b w (w.setCell ⟨b,4,M⟩ (I O oi)):=by
 subst ho;obtain⟨nv,ns,h,hl⟩:=h;exact⟨⟨nv,ns,h.own 4 (I O o') h.suf rfl,hl⟩,(Ext.refl b w).setCell (p:=⟨b,4,M⟩) (.inl rfl) _⟩
theorem zk(h:Rd b s m1 m2 l o ct w)(t:Sp.Bs)(ht:Sp.tok l≠t) :
  Calls prog 233 #[ρ (Y ⟨b,0,M⟩),χ ⟨t.toArray⟩] w fun e w'=>bC s b w (2,l.length) e w':=by
 go_enter func233,ntmps233;go_wp2_with fail;refine(Db h t ht).mono ?_;rintro e w' hf;obtain⟨N,rfl,hr⟩:=hf;exact⟨rfl,N,rfl,hr⟩
theorem qg(h:Rd b s m1 m2 l 12 ct w)(t:Sp.Bs)(ht:Sp.tok l=t) :
  Calls prog 233 #[ρ (Y ⟨b,0,M⟩),χ ⟨t.toArray⟩] w fun e w'=>bC s b w (3,l.length) e w':=by
 have h4:w.cell? ⟨b,4,M⟩=Y (I O 12):=h.c4;go_enter func233,ntmps233;go_wp2_with fail;refine(AV h t ht).mono ?_;rintro e w'⟨rfl,rfl⟩;go_wp2_with fail;refine(dZ h 3).mono ?_;rintro e w'⟨rfl,rfl⟩;go_wp2_with fail;exact⟨rfl,gp h 3 3 rfl⟩
theorem je(h:Rd b s m1 m2 l o ct w)(ho:o<12)(t:Sp.Bs)(ht:Sp.tok l=t)(hd:t.head?.any bx=false:=by decide) :
  Calls prog 233 #[ρ (Y ⟨b,0,M⟩),χ ⟨t.toArray⟩] w fun e w'=>e=υ (φ #[])/\Rd b s m1 m2 (Sp.next l) (o+1) ct w'/\Ext b w w':=by
 have h4:=h.c4;have f4:=h.fz 4;have dF:((o:Int) == 12)=false:=by simp;omega
 have hr:=u5 h (o+1) ((o:Int)+1) (by omega);obtain⟨h1,x1⟩:=hr;have H1:Hid (Rd b s m1 m2 l (o+1) ct (w.setCell ⟨b,4,M⟩ (I O ((o:Int)+1)))):=h1;clear h1;go_enter func233,ntmps233;go_wp2_with fail;refine(AV h t ht).mono ?_;rintro e w'⟨rfl,rfl⟩;go_wp2_with fail;refine(gQ H1.out (tF ht hd)).mono ?_;rintro e w'⟨rfl,h2,x2⟩;go_wp2_with fail
 go_end0
 exact⟨rfl,h2,x1.trans x2⟩
theorem Lo(h:Rd b s m1 m2 l o ct w)(p:Int) :
  Rd b s m1 m2 l o (p,ct.2) (w.setCell ⟨b,5,M⟩ (I O p))/\Ext b w (w.setCell ⟨b,5,M⟩ (I O p)):=by
 obtain⟨nv,ns,h,hl⟩:=h;exact⟨⟨nv,ns,h.own 5 (I O p) h.suf rfl,hl⟩,(Ext.refl b w).setCell (p:=⟨b,5,M⟩) (.inl rfl) _⟩
theorem O5(h:Rd b s m1 m2 l o ct w)(q:Int) :
  Rd b s m1 m2 l o (ct.1,q) (w.setCell ⟨b,6,M⟩ (I O q))/\Ext b w (w.setCell ⟨b,6,M⟩ (I O q)):=by
 obtain⟨nv,ns,h,hl⟩:=h;exact⟨⟨nv,ns,h.own 6 (I O q) h.suf rfl,hl⟩,(Ext.refl b w).setCell (p:=⟨b,6,M⟩) (.inl rfl) _⟩
theorem fR(h:Rd b s m1 m2 l o ct w) :
  Calls prog 204 #[ρ (Y ⟨b,0,M⟩)] w fun e w'=>e=υ (I O ct.2)/\Rd b s m1 m2 l o (ct.1,RowKit.wrap64 (ct.2+1)) w'/\Ext b w w':=by
 have h6:=h.c6;have f6:=h.fz 6;obtain⟨h1,x1⟩:=O5 h (RowKit.wrap64 (ct.2+1));have H1:Hid (Rd b s m1 m2 l o (ct.1,RowKit.wrap64 (ct.2+1)) (w.setCell ⟨b,6,M⟩ (I O (RowKit.wrap64 (ct.2+1))))):=h1;clear h1;go_enter func204,ntmps204;go_wp2_with fail;go_ret;exact⟨rfl,H1.out,x1⟩
theorem dD(h:aQ l=Y k):∃c:UInt8,Sp.tok l=[c]/\aC l=2/\c.toNat<105/\97<=c.toNat/\k=c.toNat - 97:=by
 unfold aQ at h;split at h
 ·rename_i c e
  split at h
  ·rename_i hc
   cases h
   refine⟨c,e,hc.1,hc.2,?_,rfl⟩;cases l with
   | nil=>simp[aC]at hc
   | cons d r =>
    rw[bU]at hc;have hd:Sp.isLet d=true:=by
     by_cases hd:Sp.isLet d=true
     ·exact hd
     ·simp[hd]at hc
      split at hc
      ·omega
      ·split at hc<;>omega
    have:Sp.tok (d :: r)=d :: (r.take (bO Sp.isLet r)):=by unfold Sp.tok;rw[eb,if_pos hd,dX,if_pos hd,List.take_succ_cons]
    rw[this]at e;have e1:d=c:=(List.cons.inj e).1;subst e1;unfold Sp.isLet at hd;simp at hd;omega
  ·cases h
 ·cases h
theorem oJ(c:UInt8):∃t:ByteArray,t=⟨[c].toArray⟩/\t.size=1/\∀h:0<t.size,t[0]=c:=⟨⟨[c].toArray⟩,rfl,rfl,fun _=>rfl⟩
theorem nj(h:Rd b s m1 m2 l o ct w)(hk:aQ l=Y k) :
  Calls prog 203 #[ρ (Y ⟨b,0,M⟩)] w fun e w'=>e=υ (I O k)/\Rd b s m1 m2 (Sp.next l) o ct w'/\Ext b w w':=by
 obtain⟨c,ht,gC,D5,so,rfl⟩:=dD hk;obtain⟨t,et,iC,hx⟩:=oJ c;have h0:0<t.size:=by omega
 have h2:w.cell? ⟨b,2,M⟩=Y (I O 2):=by rw[h.c2,gC];rfl
 have h3:w.cell? ⟨b,3,M⟩=Y (χ t):=by rw[h.c3,ht,et]
 have Bz:(t[0].toNat:Int)<105:=by rw[hx];omega
 have uH:(97:Int)<=(t[0].toNat:Int):=by rw[hx];omega
 have aS:Hid (((c.toNat - 97:Nat):Int)=(t[0].toNat:Int) - 97):=by unfold Hid;rw[hx];omega
 have hd:decide ((105:Int)<=(t[0].toNat:Int))=false:=by simp;omega
 have WS:Hid (aC l≠3):=by unfold Hid;omega
 clear hx et hk D5 so gC ht;go_enter func203,ntmps203;go_wp2_with fail;refine(gQ h WS.out).mono ?_;rintro e w'⟨rfl,h1,x1⟩;go_wp2_with fail;go_ret;exact⟨dk (by rw[aS.out]),h1,x1⟩
theorem vU(h:Rd b s m1 m2 l o ct w)(hk:aQ l=M) :
  Calls prog 203 #[ρ (Y ⟨b,0,M⟩)] w fun e w'=>bC s b w (2,l.length) e w':=by
 have h2:=h.c2;have h3:=h.c3;by_cases gC:aC l=2
 ·by_cases Wu:(Sp.tok l).length=1
  ·obtain⟨c,ht⟩:∃c,Sp.tok l=[c]:=by
    match hm:Sp.tok l,Wu with
    | [c],_=>exact⟨c,rfl⟩
   obtain⟨t,et,iC,hx⟩:=oJ c;have h0:0<t.size:=by omega
   have mL:105<=c.toNat:=by unfold aQ at hk;rw[ht]at hk;simp[gC]at hk;omega
   rw[gC]at h2;have Ij:w.cell? ⟨b,2,M⟩=Y (I O 2):=h2;rw[ht,<-et]at h3;have hd:decide ((105:Int)<=(t[0].toNat:Int))=true:=by simp;rw[hx];omega
   have Gs:(105:Int)<=(t[0].toNat:Int):=by simpa using hd
   clear h2 hx et ht mL hk gC Wu;go_enter func203,ntmps203;go_wp2_with fail;refine(dZ h 2).mono ?_;rintro e w'⟨rfl,rfl⟩;go_wp2_with fail;exact⟨rfl,gp h 2 2 rfl⟩
  ·rw[gC]at h2
   have Ij:w.cell? ⟨b,2,M⟩=Y (I O 2):=h2;generalize et:(⟨(Sp.tok l).toArray⟩:ByteArray)=t at h3;have iC:((t.size:Int) == 1)=false:=by
    rw[<-et];have:(⟨(Sp.tok l).toArray⟩:ByteArray).size=(Sp.tok l).length:=by simp[ByteArray.size]
    rw[this];simp;omega
   have fK:¬ ((t.size:Int)=1):=by simpa using iC
   clear h2 et hk gC Wu;go_enter func203,ntmps203;go_wp2_with fail;refine(dZ h 2).mono ?_;rintro e w'⟨rfl,rfl⟩;go_wp2_with fail;exact⟨rfl,gp h 2 2 rfl⟩
 ·have hb:(((aC l:Nat):Int) == 2)=false:=by simp;omega
  have BJ:¬ (((aC l:Nat):Int)=2):=by omega
  clear hk gC;generalize aC l=kd at h2 hb BJ;go_enter func203,ntmps203;go_wp2_with fail;refine(dZ h 2).mono ?_;rintro e w'⟨rfl,rfl⟩;go_wp2_with fail;exact⟨rfl,gp h 2 2 rfl⟩
structure mR(A:eR) where
 S:Int × Int->Value->A.S->Int × Int->Prop
 iface:∀ct v x aX,S ct v x aX->∃t u,v=σ t u
 num:∀ct n,n<=32767->S ct (σ 226 (I ψ (n:Nat))) (A.num n) ct
 name:∀ct k,k<8->S ct (σ 275 (I O (k:Nat))) (A.name k) ct
 neg:∀ct v x aX,S ct v x aX->S ct (σ 330 (J #[v])) (A.neg x) aX
 bin:∀ct k v x ct1 u y ct2,k<3->S ct v x ct1->S ct1 u y ct2->S ct (σ 334 (J #[I O (k:Nat),I O 0,v,u])) (A.bin k x y) ct2
 binSite:∀ct k v x ct1 u y ct2,3<=k->k<5->S ct v x ct1->S (ct1.1,RowKit.wrap64 (ct1.2+1)) u y ct2->S ct (σ 334 (J #[I O (k:Nat),I O ct1.2,v,u])) (A.bin k x y) ct2
structure Env(b m1 m2:Nat)(w:Wd):Prop where
 laid:Laid w
 ops:jt m1 w
 rels:gL m2 w
 ne1:m1≠b
 ne2:m2≠b
 nb:11<=b
theorem Laid.ext(h:Laid w)(x:Ext b w w')(hb:11<=b):Laid w':=h.below (x.below hb h.size) (Nat.le_refl _)
theorem Env.ext(h:Env b m1 m2 w)(x:Ext b w w'):Env b m1 m2 w' :=
 ⟨h.laid.ext x h.nb,h.ops.ext x h.ne1,h.rels.ext x h.ne2,h.ne1,h.ne2,h.nb⟩
def nW(Rp:mR A)(b:Nat)(s:ByteArray)(m1 m2 o:Nat)(ct:Int × Int)(w:Wd):Sp.R A.S->Ending->Wd->Prop
 | .ok (x,l'),e,w'=>∃v,e=υ v/\∃aX,Rp.S ct v x aX/\Rd b s m1 m2 l' o aX w'/\Ext b w w'
 | .error er,e,w'=>bC s b w er e w'
def gS(b:Nat)(s:ByteArray)(w:Wd):Nat:=match w.cell? ⟨b,1,M⟩ with
 | some (I _ q)=>s.size - q.toNat
 | _=>0
theorem Rd.rest(h:Rd b s m1 m2 l o ct w):gS b s w=l.length:=by unfold gS;rw[h.c1];have:=h.len;simp;omega
theorem Rd.iF(h:Rd b s m1 m2 l o ct w):(Sp.tok l).length<=400:=by have:=eD l;have:=fD l;have:=h.len;have:=h.sz;omega
theorem heap_drewN(w:Wd)(k:Nat):(w.drewN k).heap=w.heap:=by simp[World.drewN]
theorem jt.drewN(h:jt m w)(k:Nat):jt m (w.drewN k):=by obtain⟨es,clock,hh,r⟩:=h;exact⟨es,clock,by rw[heap_drewN];exact hh,r⟩
theorem gL.drewN(h:gL m w)(k:Nat):gL m (w.drewN k):=by obtain⟨es,clock,hh,r⟩:=h;exact⟨es,clock,by rw[heap_drewN];exact hh,r⟩
theorem Rd.drewN(h:Rd b s m1 m2 l o ct w)(k:Nat):Rd b s m1 m2 l o ct (w.drewN k):=h.bF rfl (fun _ _ _ _=>rfl)
theorem Ext.drewN(h:Ext b w w')(k:Nat):Ext b w (w'.drewN k):=⟨h.os,h.tape,h.output,h.size,h.block⟩
theorem pR(h:jt m w)(t:Sp.Bs)(ht:t.length<=400)(ho:ep t=M)(k:Nat) :
  (Instr.lookup 141 (.map (Y m)) (χ ⟨t.toArray⟩) true).run prog (w.drewN k)=.ok (φ #[I O 0,U false]) (w.drewN k):=by
 rw[DD (h.drewN k) t ht,ho];rfl
theorem pP(h:jt m w)(t:Sp.Bs)(ht:t.length<=400)(ho:ep t=Y j)(k:Nat) :
  (Instr.lookup 141 (.map (Y m)) (χ ⟨t.toArray⟩) true).run prog (w.drewN k)=.ok (φ #[I O (j:Nat),U true]) (w.drewN k):=by
 rw[DD (h.drewN k) t ht,ho];rfl
theorem rK{t:Sp.Bs}(h:ep t=Y k):k<5:=by
 unfold ep at h
 repeat' split at h
 all_goals first | (cases h;decide) | cases h
theorem fC(h:ep (Sp.tok l)=Y k):(Sp.next l).length<l.length:=by apply gm;rw[<-eD];apply List.length_pos_iff.2;intro e;rw[e]at h;simp[ep]at h
theorem vQ(h:ep (Sp.tok l)=Y k):aC l≠3:=by
 intro h3;obtain⟨dF,hd⟩:=de h3
 revert h dF hd
 generalize Sp.tok l=t;intro h dF hd;cases t with
 | nil=>exact dF rfl
 | cons c r =>
  have hc:=hd c (by simp);unfold bx at hc;simp at hc;unfold ep at h
  repeat' split at h
  all_goals first
   | (rename_i e;injection e with e1 _;subst e1;revert hc;decide)
   | cases h
theorem Ext.iq(h:Ext b (w.drewN k) w'):Ext b w w':=⟨h.os,h.tape,h.output,h.size,h.block⟩
theorem Rd.ext(h:Rd b s m1 m2 l o ct w)(ob:Obj):Rd b s m1 m2 l o ct (w.alloc ob):=h.bF (Below.heap_alloc _ _ _ h.lt) (fun _ _ hk _=>Below.heap_alloc _ _ _ hk)
theorem lU{c:Array Value}(x:Ext b (w.alloc (L c t f)) w')(hb:b<w.heap.size)(ht:t≠226:=by decide):w'.heap[w.heap.size]?=Y (L c t f) :=
 x.bF (heap_alloc_new _ _) (by omega) (eW ht)
theorem Rd.dU(h:Rd b s m1 m2 l o ct w){p:Addr}(hp:p.block≠b)(hn:¬ om w.heap[p.block]?)(u:Value):Rd b s m1 m2 l o ct (w.setCell p u) :=
 h.bF (Below.heap_setCell _ _ _ _ (fun e=>hp e.symm)) (fun k _ _ hk=>Below.heap_setCell _ _ _ _ (fun e=>hn (by rw[<-e];exact hk)))
def ft(k:Nat)(q:Int)(x y:Value):Array Value:=#[I O (k:Nat),I O q,x,y]
theorem CS{q:Int}(h:Bk w N (ft k q x y) 334)(q':Int):(w.setCell ⟨N,1,M⟩ (I O q')).heap[N]?=Y (L (ft k q' x y) 334):=by rw[ah h 1 (I O q')];rfl
theorem rC{q:Int}(h:Bk w N (ft k q x y) 334)(v:Value):(w.setCell ⟨N,3,M⟩ v).heap[N]?=Y (L (ft k q x v) 334):=by rw[ah h 3 v];rfl
theorem C4(Rp:mR A)(b:Nat)(s:ByteArray)(m1 m2 o n:Nat)(u:Sp.Bs->Sp.R A.S)
  (cQ:Hid (∀l x l1,u l=.ok (x,l1)->l1.length<=l.length))
  (hu:Hid (∀l ct w,l.length<n->Rd b s m1 m2 l o ct w->Env b m1 m2 w->Calls prog 247 #[ρ (Y ⟨b,0,M⟩)] w (nW Rp b s m1 m2 o ct w (u l))))
  (l:Sp.Bs) (ct:Int × Int) (w:Wd) (hl:l.length<n) (h:Rd b s m1 m2 l o ct w) (hE:Env b m1 m2 w) :
  Calls prog 234 #[ρ (Y ⟨b,0,M⟩),I O 1,.func (Fn.func 247) #[ρ (Y ⟨b,0,M⟩)] #[]] w (nW Rp b s m1 m2 o ct w (bP A 1 u l)):=by
 go_enter func234,ntmps234;go_wp2_with fail;refine(hu.out l ct _ hl h hE).mono ?_;intro e w1 hp;cases hr:u l with
 | error er =>rw[hr]at hp;obtain⟨N,rfl,hf⟩:=hp;refine⟨rfl,?_⟩;unfold bP;rw[hr];exact⟨N,rfl,hf⟩
 | ok xl =>
  obtain⟨x,l1⟩:=xl;rw[hr]at hp;obtain⟨v,rfl,ct1,hv,h1,x1⟩:=hp;obtain⟨tv,uv,rfl⟩:=Rp.iface _ _ _ _ hv;go_wp2_with fail
  go_loopw [7] (fun t wr=>∃(tt:TypeId) (uu:Value) (x':A.S) (l':Sp.Bs) (m:Nat) (aX:Int × Int),t=σ tt uu/\Hid (Rp.S ct (σ tt uu) x' aX)/\Hid (l'.length<m/\l'.length<n/\bP A 1 u l=bH A 1 u m x' l')/\Hid (Rd b s m1 m2 l' o aX wr/\Env b m1 m2 wr/\Ext b w wr)) (fun _ wr=>gS b s wr)
  case atStart => 
   refine⟨tv,uv,x,l1,l1.length+1,ct1,rfl,hv,⟨Nat.lt_succ_self _,?_,?_⟩,h1,hE.ext x1,x1⟩
   ·have:=cQ.out l x l1 hr
    omega
   ·unfold bP
    rw[hr]
  case round =>
   obtain⟨tt,uu,x',l',m,aX,rfl,NJ,kL,df⟩:=hrel;have c3:=df.1.c3;have c7:=df.1.c7;cases ho:ep (Sp.tok l') with
   | none =>
    have Im:=pR df.2.1.ops (Sp.tok l') df.1.iF ho;have HO:=hid ho;clear ho;have aS:Hid (bP A 1 u l=.ok (x',l')):=by
     unfold Hid;rw[kL.2.2];cases m with
     | zero=>rfl
     | succ m=>unfold bH;rw[HO.out]
    clear HO;go_wp2_with fail;go_quiet (fail);go_wp2_with fail;go_ret;rw[aS.out];exact⟨_,rfl,aX,NJ,df.1.drewN _,df.2.2.drewN _⟩
   | some k =>
    have Im:=pP df.2.1.ops (Sp.tok l') df.1.iF ho;have xU:k<5:=rK ho;have HO:=hid ho;clear ho;by_cases J8:cK k=1
    ·have Gg:=hid J8
     clear J8;go_wp2_with fail;go_quiet (fail);go_wp2_with fail;refine(iV k xU _).mono ?_;rintro e w2⟨rfl,rfl⟩;rw[Gg.out];go_wp2_with fail;refine(gQ (df.1.drewN _) (vQ HO.out)).mono ?_;rintro e w2⟨rfl,h2,x2⟩;have H2:Hid (Rd b s m1 m2 (Sp.next l') o aX (w2.alloc (L #[I O (k:Nat),I O 0,σ tt uu,.nilIface] 334))):=h2.ext _;have Z8:=h2.lt;have cR:=fC HO.out;have X3:Hid (Ext b w (w2.alloc (L #[I O (k:Nat),I O 0,σ tt uu,.nilIface] 334))/\Ext b wr (w2.alloc (L #[I O (k:Nat),I O 0,σ tt uu,.nilIface] 334))):=⟨(df.2.2.trans x2.iq).alloc _,x2.iq.alloc _⟩;have Uw:Hid ((w2.alloc (L #[I O (k:Nat),I O 0,σ tt uu,.nilIface] 334)).heap[w2.heap.size]?=Y (L (ft k 0 (σ tt uu) .nilIface) 334)):=heap_alloc_new _ _;have ef:w.heap.size<=w2.heap.size:=(df.2.2.trans x2.iq).size;go_wp2_with fail;refine(pQ k xU _).mono ?_;rintro e w2'⟨rfl,rfl⟩;by_cases gI:3<=k
     ·rw[show decide (3<=k)=true from decide_eq_true gI]
      go_wp2_with fail;generalize w2.alloc (L #[I O (k:Nat),I O 0,σ tt uu,.nilIface] 334)=wn at *;refine(fR H2.out).mono ?_;rintro e w3⟨rfl,h3,x3⟩;have eg:w3.heap[w2.heap.size]?=Y (L (ft k 0 (σ tt uu) .nilIface) 334):=by exact x3.bF Uw.out (by omega) (eW (by decide))
      have k1:=cell_of eg 1 (v:=I O 0) rfl;have f1:=aw eg 1;have Og:=CS eg aX.2;have H3:Hid (Rd b s m1 m2 (Sp.next l') o (aX.1,RowKit.wrap64 (aX.2+1)) (w3.setCell ⟨w2.heap.size,1,M⟩ (I O aX.2))):=h3.dU (p:=⟨w2.heap.size,1,M⟩) (by show w2.heap.size≠b;omega) (ld eg (by decide)) _;have X4:Hid (Ext b w (w3.setCell ⟨w2.heap.size,1,M⟩ (I O aX.2))/\Env b m1 m2 (w3.setCell ⟨w2.heap.size,1,M⟩ (I O aX.2))):=by have e:=(X3.1.trans x3).setCell (p:=⟨w2.heap.size,1,M⟩) (.inr ef) (I O aX.2);exact⟨e,hE.ext e⟩
      have To:=hid Og;clear Og eg;go_wp2_with fail;clear k1 f1;generalize w3.setCell ⟨w2.heap.size,1,M⟩ (I O aX.2)=w5 at *;have BA:=hu.out (Sp.next l') _ w5 (by have:=kL.2.1;omega) H3.out X4.2;refine BA.mono ?_;intro e w4 Aa;cases qN:u (Sp.next l') with
      | error er =>
       rw[qN]at Aa;have aS:bP A 1 u l=.error er:=by
        rw[kL.2.2];cases m with
        | zero=>exact absurd kL.1 (by omega)
        | succ m=>unfold bH;rw[HO.out];simp only;rw[if_pos Gg.out,qN]
       obtain⟨N,rfl,hf⟩:=Aa;refine⟨rfl,?_⟩;rw[aS];exact bC.ahead X4.1 ⟨N,rfl,hf⟩
      | ok yl =>
       obtain⟨y,l2⟩:=yl;rw[qN]at Aa;obtain⟨vy,rfl,tB,zX,h4,x4⟩:=Aa;obtain⟨ty,uy,rfl⟩:=Rp.iface _ _ _ _ zX;have UW:=cQ.out _ _ _ qN;have HB:Hid (Rp.S ct (σ 334 (J #[I O (k:Nat),I O aX.2,σ tt uu,σ ty uy])) (A.bin k x' y) tB):=Rp.binSite ct k _ _ _ _ _ _ gI xU NJ.out zX;have pL:Hid (l2.length<m - 1/\l2.length<n/\bP A 1 u l=bH A 1 u (m - 1) (A.bin k x' y) l2):=by
        have:=kL.1;have:=kL.2.1;refine⟨by omega,by omega,?_⟩;rw[kL.2.2];cases m with
        | zero=>exact absurd kL.1 (by omega)
        | succ m =>
         have e:bH A 1 u (m+1) x' l'=bH A 1 u m (A.bin k x' y) l2:=by
          conv=>lhs;unfold bH
          rw[HO.out];simp only;rw[if_pos Gg.out,qN]
         exact e
       have eg:w4.heap[w2.heap.size]?=Y (L (ft k aX.2 (σ tt uu) .nilIface) 334):=by exact x4.bF To.out (by omega) (eW (by decide))
       have k3:=cell_of eg 3 (v:=.nilIface) rfl;have f3:=aw eg 3;have kO:=rC eg (σ ty uy);have q0:=cell_of kO 0 (v:=I O (k:Nat)) rfl;have q1:=cell_of kO 1 (v:=I O aX.2) rfl;have q2:=cell_of kO 2 (v:=σ tt uu) rfl;have q3:=cell_of kO 3 (v:=σ ty uy) rfl;have h6:Rd b s m1 m2 l2 o tB (w4.setCell ⟨w2.heap.size,3,M⟩ (σ ty uy)):=h4.dU (p:=⟨w2.heap.size,3,M⟩) (by show w2.heap.size≠b;omega) (ld eg (by decide)) _;have x6:Ext b w (w4.setCell ⟨w2.heap.size,3,M⟩ (σ ty uy)):=(X4.1.trans x4).setCell (p:=⟨w2.heap.size,3,M⟩) (.inr ef) _;have cI:gS b s (w4.setCell ⟨w2.heap.size,3,M⟩ (σ ty uy))<gS b s wr:=by rw[h6.rest,df.1.rest];omega
       have xO:=hid cI;have HS:Hid (Rd b s m1 m2 l2 o tB (w4.setCell ⟨w2.heap.size,3,M⟩ (σ ty uy))/\Env b m1 m2 (w4.setCell ⟨w2.heap.size,3,M⟩ (σ ty uy))/\Ext b w (w4.setCell ⟨w2.heap.size,3,M⟩ (σ ty uy))):=⟨h6,hE.ext x6,x6⟩;clear qN zX BA eg kO h6 x6 cI x4 h4;go_wp2_with fail;exact⟨⟨_,_,_,_,_,_,rfl,HB,pL,HS⟩,xO.out⟩
     ·rw[show decide (3<=k)=false from decide_eq_false gI]
      go_wp2_with fail;generalize w2.alloc (L #[I O (k:Nat),I O 0,σ tt uu,.nilIface] 334)=w5 at *;have To:=hid Uw.out;have X4:Hid (Ext b w w5/\Env b m1 m2 w5):=⟨X3.1,hE.ext X3.1⟩;have BA:=hu.out (Sp.next l') _ w5 (by have:=kL.2.1;omega) H2.out X4.2;refine BA.mono ?_;intro e w4 Aa;cases qN:u (Sp.next l') with
      | error er =>
       rw[qN]at Aa;have aS:bP A 1 u l=.error er:=by
        rw[kL.2.2];cases m with
        | zero=>exact absurd kL.1 (by omega)
        | succ m=>unfold bH;rw[HO.out];simp only;rw[if_pos Gg.out,qN]
       obtain⟨N,rfl,hf⟩:=Aa;refine⟨rfl,?_⟩;rw[aS];exact bC.ahead X4.1 ⟨N,rfl,hf⟩
      | ok yl =>
       obtain⟨y,l2⟩:=yl;rw[qN]at Aa;obtain⟨vy,rfl,tB,zX,h4,x4⟩:=Aa;obtain⟨ty,uy,rfl⟩:=Rp.iface _ _ _ _ zX;have UW:=cQ.out _ _ _ qN;have HB:Hid (Rp.S ct (σ 334 (J #[I O (k:Nat),I O 0,σ tt uu,σ ty uy])) (A.bin k x' y) tB):=Rp.bin ct k _ _ _ _ _ _ (by omega) NJ.out zX;have pL:Hid (l2.length<m - 1/\l2.length<n/\bP A 1 u l=bH A 1 u (m - 1) (A.bin k x' y) l2):=by
        have:=kL.1;have:=kL.2.1;refine⟨by omega,by omega,?_⟩;rw[kL.2.2];cases m with
        | zero=>exact absurd kL.1 (by omega)
        | succ m =>
         have e:bH A 1 u (m+1) x' l'=bH A 1 u m (A.bin k x' y) l2:=by
          conv=>lhs;unfold bH
          rw[HO.out];simp only;rw[if_pos Gg.out,qN]
         exact e
       have eg:w4.heap[w2.heap.size]?=Y (L (ft k 0 (σ tt uu) .nilIface) 334):=by exact x4.bF To.out (by omega) (eW (by decide))
       have k3:=cell_of eg 3 (v:=.nilIface) rfl;have f3:=aw eg 3;have kO:=rC eg (σ ty uy);have q0:=cell_of kO 0 (v:=I O (k:Nat)) rfl;have q1:=cell_of kO 1 (v:=I O 0) rfl;have q2:=cell_of kO 2 (v:=σ tt uu) rfl;have q3:=cell_of kO 3 (v:=σ ty uy) rfl;have h6:Rd b s m1 m2 l2 o tB (w4.setCell ⟨w2.heap.size,3,M⟩ (σ ty uy)):=h4.dU (p:=⟨w2.heap.size,3,M⟩) (by show w2.heap.size≠b;omega) (ld eg (by decide)) _;have x6:Ext b w (w4.setCell ⟨w2.heap.size,3,M⟩ (σ ty uy)):=(X4.1.trans x4).setCell (p:=⟨w2.heap.size,3,M⟩) (.inr ef) _;have cI:gS b s (w4.setCell ⟨w2.heap.size,3,M⟩ (σ ty uy))<gS b s wr:=by rw[h6.rest,df.1.rest];omega
       have xO:=hid cI;have HS:Hid (Rd b s m1 m2 l2 o tB (w4.setCell ⟨w2.heap.size,3,M⟩ (σ ty uy))/\Env b m1 m2 (w4.setCell ⟨w2.heap.size,3,M⟩ (σ ty uy))/\Ext b w (w4.setCell ⟨w2.heap.size,3,M⟩ (σ ty uy))):=⟨h6,hE.ext x6,x6⟩;clear qN zX BA eg kO h6 x6 cI x4 h4;go_wp2_with fail;exact⟨⟨_,_,_,_,_,_,rfl,HB,pL,HS⟩,xO.out⟩
    ·have Gg:Hid (cK k=0):=by
      unfold Hid cK at *;split<;>simp_all
     have aS:Hid (bP A 1 u l=.ok (x',l')):=by
      unfold Hid;rw[kL.2.2];cases m with
      | zero=>rfl
      | succ m=>unfold bH;rw[HO.out];simp only;rw[if_neg J8]
     clear J8;go_wp2_with fail;go_quiet (fail);go_wp2_with fail;refine(iV k xU _).mono ?_;rintro e w2⟨rfl,rfl⟩;rw[Gg.out];go_wp2_with fail;go_ret;rw[aS.out];exact⟨_,rfl,aX,NJ,df.1.drewN _,df.2.2.drewN _⟩
theorem yu(Rp:mR A)(b:Nat)(s:ByteArray)(m1 m2 o n:Nat)(u:Sp.Bs->Sp.R A.S)
  (cQ:Hid (∀l x l1,u l=.ok (x,l1)->l1.length<=l.length))
  (hu:Hid (∀l ct w,l.length<n->Rd b s m1 m2 l o ct w->Env b m1 m2 w->Calls prog 235 #[ρ (Y ⟨b,0,M⟩)] w (nW Rp b s m1 m2 o ct w (u l))))
  (l:Sp.Bs) (ct:Int × Int) (w:Wd) (hl:l.length<n) (h:Rd b s m1 m2 l o ct w) (hE:Env b m1 m2 w) :
  Calls prog 234 #[ρ (Y ⟨b,0,M⟩),I O 0,.func (Fn.func 235) #[ρ (Y ⟨b,0,M⟩)] #[]] w (nW Rp b s m1 m2 o ct w (bP A 0 u l)):=by
 go_enter func234,ntmps234;go_wp2_with fail;refine(hu.out l ct _ hl h hE).mono ?_;intro e w1 hp;cases hr:u l with
 | error er =>rw[hr]at hp;obtain⟨N,rfl,hf⟩:=hp;refine⟨rfl,?_⟩;unfold bP;rw[hr];exact⟨N,rfl,hf⟩
 | ok xl =>
  obtain⟨x,l1⟩:=xl;rw[hr]at hp;obtain⟨v,rfl,ct1,hv,h1,x1⟩:=hp;obtain⟨tv,uv,rfl⟩:=Rp.iface _ _ _ _ hv;go_wp2_with fail
  go_loopw [7] (fun t wr=>∃(tt:TypeId) (uu:Value) (x':A.S) (l':Sp.Bs) (m:Nat) (aX:Int × Int),t=σ tt uu/\Hid (Rp.S ct (σ tt uu) x' aX)/\Hid (l'.length<m/\l'.length<n/\bP A 0 u l=bH A 0 u m x' l')/\Hid (Rd b s m1 m2 l' o aX wr/\Env b m1 m2 wr/\Ext b w wr)) (fun _ wr=>gS b s wr)
  case atStart => 
   refine⟨tv,uv,x,l1,l1.length+1,ct1,rfl,hv,⟨Nat.lt_succ_self _,?_,?_⟩,h1,hE.ext x1,x1⟩
   ·have:=cQ.out l x l1 hr
    omega
   ·unfold bP
    rw[hr]
  case round =>
   obtain⟨tt,uu,x',l',m,aX,rfl,NJ,kL,df⟩:=hrel;have c3:=df.1.c3;have c7:=df.1.c7;cases ho:ep (Sp.tok l') with
   | none =>
    have Im:=pR df.2.1.ops (Sp.tok l') df.1.iF ho;have HO:=hid ho;clear ho;have aS:Hid (bP A 0 u l=.ok (x',l')):=by
     unfold Hid;rw[kL.2.2];cases m with
     | zero=>rfl
     | succ m=>unfold bH;rw[HO.out]
    clear HO;go_wp2_with fail;go_quiet (fail);go_wp2_with fail;go_ret;rw[aS.out];exact⟨_,rfl,aX,NJ,df.1.drewN _,df.2.2.drewN _⟩
   | some k =>
    have Im:=pP df.2.1.ops (Sp.tok l') df.1.iF ho;have xU:k<5:=rK ho;have HO:=hid ho;clear ho;by_cases J8:cK k=0
    ·have Gg:=hid J8
     clear J8;go_wp2_with fail;go_quiet (fail);go_wp2_with fail;refine(iV k xU _).mono ?_;rintro e w2⟨rfl,rfl⟩;rw[Gg.out];go_wp2_with fail;refine(gQ (df.1.drewN _) (vQ HO.out)).mono ?_;rintro e w2⟨rfl,h2,x2⟩;have H2:Hid (Rd b s m1 m2 (Sp.next l') o aX (w2.alloc (L #[I O (k:Nat),I O 0,σ tt uu,.nilIface] 334))):=h2.ext _;have Z8:=h2.lt;have cR:=fC HO.out;have X3:Hid (Ext b w (w2.alloc (L #[I O (k:Nat),I O 0,σ tt uu,.nilIface] 334))/\Ext b wr (w2.alloc (L #[I O (k:Nat),I O 0,σ tt uu,.nilIface] 334))):=⟨(df.2.2.trans x2.iq).alloc _,x2.iq.alloc _⟩;have Uw:Hid ((w2.alloc (L #[I O (k:Nat),I O 0,σ tt uu,.nilIface] 334)).heap[w2.heap.size]?=Y (L (ft k 0 (σ tt uu) .nilIface) 334)):=heap_alloc_new _ _;have ef:w.heap.size<=w2.heap.size:=(df.2.2.trans x2.iq).size;go_wp2_with fail;refine(pQ k xU _).mono ?_;rintro e w2'⟨rfl,rfl⟩;by_cases gI:3<=k
     ·rw[show decide (3<=k)=true from decide_eq_true gI]
      go_wp2_with fail;generalize w2.alloc (L #[I O (k:Nat),I O 0,σ tt uu,.nilIface] 334)=wn at *;refine(fR H2.out).mono ?_;rintro e w3⟨rfl,h3,x3⟩;have eg:w3.heap[w2.heap.size]?=Y (L (ft k 0 (σ tt uu) .nilIface) 334):=by exact x3.bF Uw.out (by omega) (eW (by decide))
      have k1:=cell_of eg 1 (v:=I O 0) rfl;have f1:=aw eg 1;have Og:=CS eg aX.2;have H3:Hid (Rd b s m1 m2 (Sp.next l') o (aX.1,RowKit.wrap64 (aX.2+1)) (w3.setCell ⟨w2.heap.size,1,M⟩ (I O aX.2))):=h3.dU (p:=⟨w2.heap.size,1,M⟩) (by show w2.heap.size≠b;omega) (ld eg (by decide)) _;have X4:Hid (Ext b w (w3.setCell ⟨w2.heap.size,1,M⟩ (I O aX.2))/\Env b m1 m2 (w3.setCell ⟨w2.heap.size,1,M⟩ (I O aX.2))):=by have e:=(X3.1.trans x3).setCell (p:=⟨w2.heap.size,1,M⟩) (.inr ef) (I O aX.2);exact⟨e,hE.ext e⟩
      have To:=hid Og;clear Og eg;go_wp2_with fail;clear k1 f1;generalize w3.setCell ⟨w2.heap.size,1,M⟩ (I O aX.2)=w5 at *;have BA:=hu.out (Sp.next l') _ w5 (by have:=kL.2.1;omega) H3.out X4.2;refine BA.mono ?_;intro e w4 Aa;cases qN:u (Sp.next l') with
      | error er =>
       rw[qN]at Aa;have aS:bP A 0 u l=.error er:=by
        rw[kL.2.2];cases m with
        | zero=>exact absurd kL.1 (by omega)
        | succ m=>unfold bH;rw[HO.out];simp only;rw[if_pos Gg.out,qN]
       obtain⟨N,rfl,hf⟩:=Aa;refine⟨rfl,?_⟩;rw[aS];exact bC.ahead X4.1 ⟨N,rfl,hf⟩
      | ok yl =>
       obtain⟨y,l2⟩:=yl;rw[qN]at Aa;obtain⟨vy,rfl,tB,zX,h4,x4⟩:=Aa;obtain⟨ty,uy,rfl⟩:=Rp.iface _ _ _ _ zX;have UW:=cQ.out _ _ _ qN;have HB:Hid (Rp.S ct (σ 334 (J #[I O (k:Nat),I O aX.2,σ tt uu,σ ty uy])) (A.bin k x' y) tB):=Rp.binSite ct k _ _ _ _ _ _ gI xU NJ.out zX;have pL:Hid (l2.length<m - 1/\l2.length<n/\bP A 0 u l=bH A 0 u (m - 1) (A.bin k x' y) l2):=by
        have:=kL.1;have:=kL.2.1;refine⟨by omega,by omega,?_⟩;rw[kL.2.2];cases m with
        | zero=>exact absurd kL.1 (by omega)
        | succ m =>
         have e:bH A 0 u (m+1) x' l'=bH A 0 u m (A.bin k x' y) l2:=by
          conv=>lhs;unfold bH
          rw[HO.out];simp only;rw[if_pos Gg.out,qN]
         exact e
       have eg:w4.heap[w2.heap.size]?=Y (L (ft k aX.2 (σ tt uu) .nilIface) 334):=by exact x4.bF To.out (by omega) (eW (by decide))
       have k3:=cell_of eg 3 (v:=.nilIface) rfl;have f3:=aw eg 3;have kO:=rC eg (σ ty uy);have q0:=cell_of kO 0 (v:=I O (k:Nat)) rfl;have q1:=cell_of kO 1 (v:=I O aX.2) rfl;have q2:=cell_of kO 2 (v:=σ tt uu) rfl;have q3:=cell_of kO 3 (v:=σ ty uy) rfl;have h6:Rd b s m1 m2 l2 o tB (w4.setCell ⟨w2.heap.size,3,M⟩ (σ ty uy)):=h4.dU (p:=⟨w2.heap.size,3,M⟩) (by show w2.heap.size≠b;omega) (ld eg (by decide)) _;have x6:Ext b w (w4.setCell ⟨w2.heap.size,3,M⟩ (σ ty uy)):=(X4.1.trans x4).setCell (p:=⟨w2.heap.size,3,M⟩) (.inr ef) _;have cI:gS b s (w4.setCell ⟨w2.heap.size,3,M⟩ (σ ty uy))<gS b s wr:=by rw[h6.rest,df.1.rest];omega
       have xO:=hid cI;have HS:Hid (Rd b s m1 m2 l2 o tB (w4.setCell ⟨w2.heap.size,3,M⟩ (σ ty uy))/\Env b m1 m2 (w4.setCell ⟨w2.heap.size,3,M⟩ (σ ty uy))/\Ext b w (w4.setCell ⟨w2.heap.size,3,M⟩ (σ ty uy))):=⟨h6,hE.ext x6,x6⟩;clear qN zX BA eg kO h6 x6 cI x4 h4;go_wp2_with fail;exact⟨⟨_,_,_,_,_,_,rfl,HB,pL,HS⟩,xO.out⟩
     ·rw[show decide (3<=k)=false from decide_eq_false gI]
      go_wp2_with fail;generalize w2.alloc (L #[I O (k:Nat),I O 0,σ tt uu,.nilIface] 334)=w5 at *;have To:=hid Uw.out;have X4:Hid (Ext b w w5/\Env b m1 m2 w5):=⟨X3.1,hE.ext X3.1⟩;have BA:=hu.out (Sp.next l') _ w5 (by have:=kL.2.1;omega) H2.out X4.2;refine BA.mono ?_;intro e w4 Aa;cases qN:u (Sp.next l') with
      | error er =>
       rw[qN]at Aa;have aS:bP A 0 u l=.error er:=by
        rw[kL.2.2];cases m with
        | zero=>exact absurd kL.1 (by omega)
        | succ m=>unfold bH;rw[HO.out];simp only;rw[if_pos Gg.out,qN]
       obtain⟨N,rfl,hf⟩:=Aa;refine⟨rfl,?_⟩;rw[aS];exact bC.ahead X4.1 ⟨N,rfl,hf⟩
      | ok yl =>
       obtain⟨y,l2⟩:=yl;rw[qN]at Aa;obtain⟨vy,rfl,tB,zX,h4,x4⟩:=Aa;obtain⟨ty,uy,rfl⟩:=Rp.iface _ _ _ _ zX;have UW:=cQ.out _ _ _ qN;have HB:Hid (Rp.S ct (σ 334 (J #[I O (k:Nat),I O 0,σ tt uu,σ ty uy])) (A.bin k x' y) tB):=Rp.bin ct k _ _ _ _ _ _ (by omega) NJ.out zX;have pL:Hid (l2.length<m - 1/\l2.length<n/\bP A 0 u l=bH A 0 u (m - 1) (A.bin k x' y) l2):=by
        have:=kL.1;have:=kL.2.1;refine⟨by omega,by omega,?_⟩;rw[kL.2.2];cases m with
        | zero=>exact absurd kL.1 (by omega)
        | succ m =>
         have e:bH A 0 u (m+1) x' l'=bH A 0 u m (A.bin k x' y) l2:=by
          conv=>lhs;unfold bH
          rw[HO.out];simp only;rw[if_pos Gg.out,qN]
         exact e
       have eg:w4.heap[w2.heap.size]?=Y (L (ft k 0 (σ tt uu) .nilIface) 334):=by exact x4.bF To.out (by omega) (eW (by decide))
       have k3:=cell_of eg 3 (v:=.nilIface) rfl;have f3:=aw eg 3;have kO:=rC eg (σ ty uy);have q0:=cell_of kO 0 (v:=I O (k:Nat)) rfl;have q1:=cell_of kO 1 (v:=I O 0) rfl;have q2:=cell_of kO 2 (v:=σ tt uu) rfl;have q3:=cell_of kO 3 (v:=σ ty uy) rfl;have h6:Rd b s m1 m2 l2 o tB (w4.setCell ⟨w2.heap.size,3,M⟩ (σ ty uy)):=h4.dU (p:=⟨w2.heap.size,3,M⟩) (by show w2.heap.size≠b;omega) (ld eg (by decide)) _;have x6:Ext b w (w4.setCell ⟨w2.heap.size,3,M⟩ (σ ty uy)):=(X4.1.trans x4).setCell (p:=⟨w2.heap.size,3,M⟩) (.inr ef) _;have cI:gS b s (w4.setCell ⟨w2.heap.size,3,M⟩ (σ ty uy))<gS b s wr:=by rw[h6.rest,df.1.rest];omega
       have xO:=hid cI;have HS:Hid (Rd b s m1 m2 l2 o tB (w4.setCell ⟨w2.heap.size,3,M⟩ (σ ty uy))/\Env b m1 m2 (w4.setCell ⟨w2.heap.size,3,M⟩ (σ ty uy))/\Ext b w (w4.setCell ⟨w2.heap.size,3,M⟩ (σ ty uy))):=⟨h6,hE.ext x6,x6⟩;clear qN zX BA eg kO h6 x6 cI x4 h4;go_wp2_with fail;exact⟨⟨_,_,_,_,_,_,rfl,HB,pL,HS⟩,xO.out⟩
    ·have Gg:Hid (cK k=1):=by
      unfold Hid cK at *;split<;>simp_all
     have aS:Hid (bP A 0 u l=.ok (x',l')):=by
      unfold Hid;rw[kL.2.2];cases m with
      | zero=>rfl
      | succ m=>unfold bH;rw[HO.out];simp only;rw[if_neg J8]
     clear J8;go_wp2_with fail;go_quiet (fail);go_wp2_with fail;refine(iV k xU _).mono ?_;rintro e w2⟨rfl,rfl⟩;rw[Gg.out];go_wp2_with fail;go_ret;rw[aS.out];exact⟨_,rfl,aX,NJ,df.1.drewN _,df.2.2.drewN _⟩
def Reads(Rp:mR A)(f:Nat)(b:Nat)(s:ByteArray)(m1 m2 o n:Nat)(u:Sp.Bs->Sp.R A.S):Prop :=
 ∀l ct w,l.length<n->Rd b s m1 m2 l o ct w->Env b m1 m2 w->Calls prog f #[ρ (Y ⟨b,0,M⟩)] w (nW Rp b s m1 m2 o ct w (u l))
theorem yj(Rp:mR A)(b:Nat)(s:ByteArray)(m1 m2 o n:Nat)(u:Sp.Bs->Sp.R A.S)(cQ:∀l x l1,u l=.ok (x,l1)->l1.length<=l.length)
  (hu:Reads Rp 247 b s m1 m2 o n u):Reads Rp 235 b s m1 m2 o n (oG A u):=by
 intro l ct w hl h hE;have hc:Calls prog 234 #[ρ (Y ⟨b,0,M⟩),I O 1,.func (Fn.func 247) #[ρ (Y ⟨b,0,M⟩)] #[]] w (nW Rp b s m1 m2 o ct w (oG A u l)):=C4 Rp b s m1 m2 o n u cQ hu l ct w hl h hE;clear cQ hu;generalize oG A u l=r at hc ⊢;cases r with
 | error er =>go_enter func235,ntmps235;go_wp2_with fail;refine hc.mono ?_;rintro e w1⟨N,rfl,hf⟩;exact⟨rfl,N,rfl,hf⟩
 | ok xl =>obtain⟨x,l1⟩:=xl;go_enter func235,ntmps235;go_wp2_with fail;refine hc.mono ?_;rintro e w1⟨v,rfl,ct1,hv,h1,x1⟩;go_wp2_with fail;go_ret;exact⟨v,rfl,ct1,hv,h1,x1⟩
theorem zU(Rp:mR A)(b:Nat)(s:ByteArray)(m1 m2 o n:Nat)(u:Sp.Bs->Sp.R A.S)(cQ:∀l x l1,u l=.ok (x,l1)->l1.length<=l.length)
  (hu:Reads Rp 247 b s m1 m2 o n u):Reads Rp 207 b s m1 m2 o n (og A u):=by
 intro l ct w hl h hE;have hc:Calls prog 234 #[ρ (Y ⟨b,0,M⟩),I O 0,.func (Fn.func 235) #[ρ (Y ⟨b,0,M⟩)] #[]] w (nW Rp b s m1 m2 o ct w (og A u l)):=yu Rp b s m1 m2 o n (oG A u) (sC cQ) (yj Rp b s m1 m2 o n u cQ hu) l ct w hl h hE;clear cQ hu;generalize og A u l=r at hc ⊢;cases r with
 | error er =>go_enter func207,ntmps207;go_wp2_with fail;refine hc.mono ?_;rintro e w1⟨N,rfl,hf⟩;exact⟨rfl,N,rfl,hf⟩
 | ok xl =>obtain⟨x,l1⟩:=xl;go_enter func207,ntmps207;go_wp2_with fail;refine hc.mono ?_;rintro e w1⟨v,rfl,ct1,hv,h1,x1⟩;go_wp2_with fail;go_ret;exact⟨v,rfl,ct1,hv,h1,x1⟩
theorem mC(Rp:mR A){r:Sp.R A.S}{e:Ending}(hr:r=.error er)(h:bC s b w er e w'):nW Rp b s m1 m2 o ct w r e w':=by rw[hr];exact h
theorem yX(Rp:mR A){r:Sp.R A.S}{x:A.S}(hr:r=.ok (x,l'))(hv:Rp.S ct v x aX)(h:Rd b s m1 m2 l' o aX w')(hx:Ext b w w'):nW Rp b s m1 m2 o ct w r (υ v) w':=by rw[hr];exact⟨v,rfl,aX,hv,h,hx⟩
def kB(A:eR)(u:Sp.Bs->Sp.R A.S)(o:Nat)(l:Sp.Bs):Sp.R A.S:=match Sp.enter [45] o l with
 | .ok l1=>(match u l1 with
  | .ok (x,l2)=>.ok (A.neg x,l2)
  | .error e=>.error e)
 | .error e=>.error e
theorem jW(Rp:mR A)(b:Nat)(s:ByteArray)(m1 m2 o n:Nat)(u:Sp.Bs->Sp.R A.S)
  (hu:o<12->Reads Rp 247 b s m1 m2 (o+1) n u) (l:Sp.Bs) (ct:Int × Int) (w:Wd) (hl:l.length<n+1) (h:Rd b s m1 m2 l o ct w) (hE:Env b m1 m2 w) (ho:o<=12) (ht:Sp.tok l=[45]) :
  Calls prog 253 #[ρ (Y ⟨b,0,M⟩)] w (nW Rp b s m1 m2 o ct w (kB A u o l)):=by
 by_cases sl:o=12
 ·subst sl
  have hr:Hid (kB A u 12 l=.error (3,l.length)):=by unfold Hid kB Sp.enter;rw[if_pos ht,if_pos rfl];rfl
  go_enter func253,ntmps253;go_wp2_with fail;refine(qg h [45] ht).mono ?_;rintro e w1⟨N,rfl,hf⟩;exact⟨rfl,mC Rp hr.out ⟨N,rfl,hf⟩⟩
 ·have Ot:Sp.enter [45] o l=.ok (Sp.next l):=by unfold Sp.enter;rw[if_pos ht,if_neg sl]
  have Tb:=aG ht (by simp);cases hr:u (Sp.next l) with
  | error er =>
   have aS:Hid (kB A u o l=.error er):=by unfold Hid kB;rw[Ot];simp only;rw[hr]
   go_enter func253,ntmps253;go_wp2_with fail;refine(je h (by omega) [45] ht).mono ?_;rintro e w1⟨rfl,h1,x1⟩;go_wp2_with fail;refine(hu (by omega) (Sp.next l) ct w1 (by omega) h1 (hE.ext x1)).mono ?_;intro e w2 hp;rw[hr]at hp;obtain⟨N,rfl,hf⟩:=hp;exact⟨rfl,mC Rp aS.out (bC.ahead x1 ⟨N,rfl,hf⟩)⟩
  | ok xl =>
   obtain⟨x,l2⟩:=xl;have aS:Hid (kB A u o l=.ok (A.neg x,l2)):=by unfold Hid kB;rw[Ot];simp only;rw[hr]
   go_enter func253,ntmps253;go_wp2_with fail;refine(je h (by omega) [45] ht).mono ?_;rintro e w1⟨rfl,h1,x1⟩;go_wp2_with fail;refine(hu (by omega) (Sp.next l) ct w1 (by omega) h1 (hE.ext x1)).mono ?_;intro e w2 hp;rw[hr]at hp;obtain⟨v,rfl,ct1,hv,h2,x2⟩:=hp;obtain⟨tv,uv,rfl⟩:=Rp.iface _ _ _ _ hv;have c4:w2.cell? ⟨b,4,M⟩=Y (I O ((o:Int)+1)):=h2.c4;have f4:=h2.fz 4;have BU:=u5 h2 o (o:Int) rfl;have HS:=hid BU;have hn:=Rp.neg _ _ _ _ hv;have HN:=hid hn;clear BU hn hr;go_wp2_with fail;go_ret;exact yX Rp aS.out HN HS.1 ((x1.trans x2).trans HS.2)
def bX(A:eR)(q:Sp.Bs->Sp.R A.S)(o:Nat)(l:Sp.Bs):Sp.R A.S:=match Sp.enter [40] o l with
 | .ok l1=>(match q l1 with
  | .ok (x,l2)=>(match Sp.take [41] l2 with
   | .ok l3=>.ok (x,l3)
   | .error e=>.error e)
  | .error e=>.error e)
 | .error e=>.error e
theorem uJ(Rp:mR A)(b:Nat)(s:ByteArray)(m1 m2 o n:Nat)(q:Sp.Bs->Sp.R A.S)
  (hu:o<12->Reads Rp 207 b s m1 m2 (o+1) n q) (l:Sp.Bs) (ct:Int × Int) (w:Wd) (hl:l.length<n+1) (h:Rd b s m1 m2 l o ct w) (hE:Env b m1 m2 w) (ho:o<=12) :
  Calls prog 254 #[ρ (Y ⟨b,0,M⟩)] w (nW Rp b s m1 m2 o ct w (bX A q o l)):=by
 by_cases ht:Sp.tok l=[40]
 ·by_cases sl:o=12
  ·subst sl
   have hr:Hid (bX A q 12 l=.error (3,l.length)):=by unfold Hid bX Sp.enter;rw[if_pos ht,if_pos rfl];rfl
   go_enter func254,ntmps254;go_wp2_with fail;refine(qg h [40] ht).mono ?_;rintro e w1⟨N,rfl,hf⟩;exact⟨rfl,mC Rp hr.out ⟨N,rfl,hf⟩⟩
  ·have Ot:Sp.enter [40] o l=.ok (Sp.next l):=by unfold Sp.enter;rw[if_pos ht,if_neg sl]
   have Tb:=aG ht (by simp);cases hr:q (Sp.next l) with
   | error er =>
    have aS:Hid (bX A q o l=.error er):=by unfold Hid bX;rw[Ot];simp only;rw[hr]
    go_enter func254,ntmps254;go_wp2_with fail;refine(je h (by omega) [40] ht).mono ?_;rintro e w1⟨rfl,h1,x1⟩;go_wp2_with fail;refine(hu (by omega) (Sp.next l) ct w1 (by omega) h1 (hE.ext x1)).mono ?_;intro e w2 hp;rw[hr]at hp;obtain⟨N,rfl,hf⟩:=hp;exact⟨rfl,mC Rp aS.out (bC.ahead x1 ⟨N,rfl,hf⟩)⟩
   | ok xl =>
    obtain⟨x,l2⟩:=xl;by_cases BU:Sp.tok l2=[41]
    ·have aS:Hid (bX A q o l=.ok (x,Sp.next l2)):=by unfold Hid bX;rw[Ot];simp only;rw[hr];simp only;unfold Sp.take;rw[if_pos BU]
     go_enter func254,ntmps254;go_wp2_with fail;refine(je h (by omega) [40] ht).mono ?_;rintro e w1⟨rfl,h1,x1⟩;go_wp2_with fail;refine(hu (by omega) (Sp.next l) ct w1 (by omega) h1 (hE.ext x1)).mono ?_;intro e w2 hp;rw[hr]at hp;obtain⟨v,rfl,ct1,hv,h2,x2⟩:=hp;have HV:=hid hv;clear hv hr;go_wp2_with fail;refine(di h2 [41] BU).mono ?_;rintro e w3⟨rfl,h3,x3⟩;have c4:w3.cell? ⟨b,4,M⟩=Y (I O ((o:Int)+1)):=h3.c4;have f4:=h3.fz 4;have BU:=u5 h3 o (o:Int) rfl;have HS:=hid BU;clear BU;go_wp2_with fail;go_ret;exact yX Rp aS.out HV HS.1 (((x1.trans x2).trans x3).trans HS.2)
    ·have aS:Hid (bX A q o l=.error (2,l2.length)):=by unfold Hid bX;rw[Ot];simp only;rw[hr];simp only;unfold Sp.take;rw[if_neg BU];rfl
     go_enter func254,ntmps254;go_wp2_with fail;refine(je h (by omega) [40] ht).mono ?_;rintro e w1⟨rfl,h1,x1⟩;go_wp2_with fail;refine(hu (by omega) (Sp.next l) ct w1 (by omega) h1 (hE.ext x1)).mono ?_;intro e w2 hp;rw[hr]at hp;obtain⟨v,rfl,ct1,hv,h2,x2⟩:=hp;clear hv hr;go_wp2_with fail;refine(mw h2 [41] BU).mono ?_;rintro e w3⟨N,rfl,hf⟩;exact⟨rfl,mC Rp aS.out (bC.ahead (x1.trans x2) ⟨N,rfl,hf⟩)⟩
 ·have hr:Hid (bX A q o l=.error (2,l.length)):=by
   unfold Hid bX Sp.enter;rw[if_neg ht];rfl
  go_enter func254,ntmps254;go_wp2_with fail;refine(zk h [40] ht).mono ?_;rintro e w1⟨N,rfl,hf⟩;exact⟨rfl,mC Rp hr.out ⟨N,rfl,hf⟩⟩
theorem gd(A:eR)(n o:Nat)(l:Sp.Bs):bk A (n+1) o l =
  if aC l=3 then(match gA (Sp.tok l) with
   | some v=>.ok (A.num v,Sp.next l)
   | none=>Sp.bad 2 l)
  else if aC l=2 then(match dG l with
   | .ok (k,l1)=>.ok (A.name k,l1)
   | .error e=>.error e)
  else if Sp.tok l=[45] then kB A (bk A n (o+1)) o l
  else bX A (og A (bk A n (o+1))) o l:=rfl
theorem kI(h:aQ l=M):dG l=.error (2,l.length):=by unfold dG;rw[h];rfl
theorem iG(h:aQ l=Y k):dG l=.ok (k,Sp.next l):=by unfold dG;rw[h]
theorem FB(Rp:mR A)(b:Nat)(s:ByteArray)(m1 m2 o n:Nat)(ho:o<=12)
  (ih:o<12->Reads Rp 247 b s m1 m2 (o+1) n (bk A n (o+1))):Reads Rp 247 b s m1 m2 o (n+1) (bk A (n+1) o):=by
 intro l ct w hl h hE;rw[gd];have c2:=h.c2;by_cases h3:aC l=3
 ·rw[if_pos h3]
  have c2':w.cell? ⟨b,2,M⟩=Y (I O 3):=by rw[c2,h3];rfl
  clear c2;cases hv:gA (Sp.tok l) with
  | none =>go_enter func247,ntmps247;go_wp2_with fail;refine(Fc h hE.laid h3 hv).mono ?_;rintro e w1⟨N,rfl,hf⟩;exact⟨rfl,N,rfl,hf⟩
  | some v =>
   have hle:v<=32767:=by have:=oN hv;omega
   go_enter func247,ntmps247;go_wp2_with fail;refine(JB h h3 hv).mono ?_;rintro e w1⟨rfl,h1,x1⟩;go_wp2_with fail;go_ret;exact⟨_,rfl,ct,Rp.num ct v hle,h1,x1⟩
 ·rw[if_neg h3]
  have n3:¬ (((aC l:Nat):Int)=3):=by omega
  have b3:(((aC l:Nat):Int) == 3)=false:=by simpa using n3
  by_cases h2:aC l=2
  ·rw[if_pos h2]
   have c2':w.cell? ⟨b,2,M⟩=Y (I O 2):=by rw[c2,h2];rfl
   clear c2 n3 b3 h3;cases hv:aQ l with
   | none =>rw[kI hv];go_enter func247,ntmps247;go_wp2_with fail;refine(vU h hv).mono ?_;rintro e w1⟨N,rfl,hf⟩;exact⟨rfl,N,rfl,hf⟩
   | some k =>
    rw[iG hv];have hk:k<8:=by obtain⟨c,_,_,h1,h2,rfl⟩:=dD hv;omega
    go_enter func247,ntmps247;go_wp2_with fail;refine(nj h hv).mono ?_;rintro e w1⟨rfl,h1,x1⟩;go_wp2_with fail;go_ret;exact⟨_,rfl,ct,Rp.name ct k hk,h1,x1⟩
  ·rw[if_neg h2]
   have n2:¬ (((aC l:Nat):Int)=2):=by omega
   have b2:(((aC l:Nat):Int) == 2)=false:=by simpa using n2
   have c3:=h.c3;by_cases ht:Sp.tok l=[45]
   ·rw[if_pos ht]
    have Wn:w.cell? ⟨b,3,M⟩=Y (χ ⟨#[45]⟩):=by rw[c3,ht]
    have hc:=jW Rp b s m1 m2 o n (bk A n (o+1)) ih l ct w hl h hE ho ht;clear c3 ht ih h2 h3;generalize kB A (bk A n (o+1)) o l=r at hc ⊢;generalize aC l=kd at *;cases r with
    | error er =>go_enter func247,ntmps247;go_wp2_with fail;refine hc.mono ?_;rintro e w1⟨N,rfl,hf⟩;exact⟨rfl,N,rfl,hf⟩
    | ok xl =>obtain⟨x,l1⟩:=xl;go_enter func247,ntmps247;go_wp2_with fail;refine hc.mono ?_;rintro e w1⟨v,rfl,ct1,hv,h1,x1⟩;go_wp2_with fail;go_ret;exact⟨v,rfl,ct1,hv,h1,x1⟩
   ·rw[if_neg ht]
    have hb:=gM ht;have hc:=uJ Rp b s m1 m2 o n (og A (bk A n (o+1))) (fun sl=>zU Rp b s m1 m2 (o+1) n _ (fun l x l1 h=>Nat.le_of_lt (iK n (o+1) l x l1 h)) (ih sl)) l ct w hl h hE ho;clear ih h2 h3 ht;generalize bX A (og A (bk A n (o+1))) o l=r at hc ⊢;generalize aC l=kd at *;cases r with
    | error er =>go_enter func247,ntmps247;go_wp2_with fail;refine hc.mono ?_;rintro e w1⟨N,rfl,hf⟩;exact⟨rfl,N,rfl,hf⟩
    | ok xl =>obtain⟨x,l1⟩:=xl;go_enter func247,ntmps247;go_wp2_with fail;refine hc.mono ?_;rintro e w1⟨v,rfl,ct1,hv,h1,x1⟩;go_wp2_with fail;go_ret;exact⟨v,rfl,ct1,hv,h1,x1⟩
theorem tE(Rp:mR A)(b:Nat)(s:ByteArray)(m1 m2:Nat):∀(n o:Nat),o<=12->Reads Rp 247 b s m1 m2 o n (bk A n o)
 | 0,_,_=>fun l _ _ hl _ _=>absurd hl (Nat.not_lt_zero _)
 | n+1,o,ho=>FB Rp b s m1 m2 o n ho (fun h=>tE Rp b s m1 m2 n (o+1) (by omega))
theorem gl(Rp:mR A)(b:Nat)(s:ByteArray)(m1 m2 o:Nat)(ho:o<=12)(l:Sp.Bs)(ct:Int × Int)(w:Wd)(h:Rd b s m1 m2 l o ct w)(hE:Env b m1 m2 w) :
  Calls prog 207 #[ρ (Y ⟨b,0,M⟩)] w (nW Rp b s m1 m2 o ct w (Sp.pS A o l)) :=
 zU Rp b s m1 m2 o (l.length+1) _ (fun l' x l1 h=>Nat.le_of_lt (iK (l.length+1) o l' x l1 h)) (tE Rp b s m1 m2 (l.length+1) o ho) l ct w (Nat.lt_succ_self _) h hE
theorem tU(h:ea (Sp.tok l)=Y k):aC l≠3:=by
 intro h3;obtain⟨dF,hd⟩:=de h3
 revert h dF hd
 generalize Sp.tok l=t;intro h dF hd;cases t with
 | nil=>exact dF rfl
 | cons c r =>
  have hc:=hd c (by simp);unfold bx at hc;simp at hc;unfold ea at h
  repeat' split at h
  all_goals first
   | (rename_i e;injection e with e1 _;subst e1;revert hc;decide)
   | cases h
def ml(V:Int × Int->Wd->Value->α->Int × Int->Prop)(b:Nat)(s:ByteArray)(m1 m2 o:Nat)(ct:Int × Int)(w:Wd):Sp.R α->Ending->Wd->Prop
 | .ok (x,l'),e,w'=>∃v,e=υ v/\∃aX,V ct w' v x aX/\Rd b s m1 m2 l' o aX w'/\Ext b w w'
 | .error er,e,w'=>bC s b w er e w'
theorem bS{V:Int × Int->Wd->Value->α->Int × Int->Prop}{r:Sp.R α}{e:Ending}(hr:r=.error er)(h:bC s b w er e w'):ml V b s m1 m2 o ct w r e w':=by rw[hr];exact h
theorem fl{V:Int × Int->Wd->Value->α->Int × Int->Prop}{r:Sp.R α}{x:α}(hr:r=.ok (x,l'))(hv:V ct w' v x aX)(h:Rd b s m1 m2 l' o aX w')(hx:Ext b w w'):ml V b s m1 m2 o ct w r (υ v) w':=by rw[hr];exact⟨v,rfl,aX,hv,h,hx⟩
def Vy(Rp:mR A)(ct:Int × Int)(_w:Wd)(v:Value)(c:Nat × A.S × A.S)(ct2:Int × Int):Prop :=
 ∃tl ul tr ur ct1,v=J #[I O (c.1:Nat),σ tl ul,σ tr ur]/\c.1<6/\Rp.S ct (σ tl ul) c.2.1 ct1/\Rp.S ct1 (σ tr ur) c.2.2 ct2
theorem vF(h:gL m w)(t:Sp.Bs)(ht:t.length<=400)(ho:ea t=M)(k:Nat) :
  (Instr.lookup 143 (.map (Y m)) (χ ⟨t.toArray⟩) true).run prog (w.drewN k)=.ok (φ #[I O 0,U false]) (w.drewN k):=by
 rw[zr (h.drewN k) t ht,ho];rfl
theorem oW(h:gL m w)(t:Sp.Bs)(ht:t.length<=400)(ho:ea t=Y j)(k:Nat) :
  (Instr.lookup 143 (.map (Y m)) (χ ⟨t.toArray⟩) true).run prog (w.drewN k)=.ok (φ #[I O (j:Nat),U true]) (w.drewN k):=by
 rw[zr (h.drewN k) t ht,ho];rfl
theorem wS{t:Sp.Bs}(h:ea t=Y k):k<6:=by
 unfold ea at h
 repeat' split at h
 all_goals first | (cases h;decide) | cases h
theorem Gb(h:Bk w N #[a0,a1,a2] t)(v0 v1 v2:Value) :
  (((w.setCell ⟨N,0,M⟩ v0).setCell ⟨N,1,M⟩ v1).setCell ⟨N,2,M⟩ v2).heap[N]?=Y (L #[v0,v1,v2] t):=by
 rw[ah (ah (ah h 0 v0) 1 v1) 2 v2];rfl
theorem gh(Rp:mR A)(b:Nat)(s:ByteArray)(m1 m2 o:Nat)(ho:o<=12)(l:Sp.Bs)(ct:Int × Int)(w:Wd)(h:Rd b s m1 m2 l o ct w)(hE:Env b m1 m2 w) :
  Calls prog 205 #[ρ (Y ⟨b,0,M⟩)] w (ml (Vy Rp) b s m1 m2 o ct w (bh A o l)):=by
 have jR:Hid (Rd b s m1 m2 l o ct (w.alloc (L #[I O 0,.nilIface,.nilIface] 285))/\Env b m1 m2 (w.alloc (L #[I O 0,.nilIface,.nilIface] 285))/\Ext b w (w.alloc (L #[I O 0,.nilIface,.nilIface] 285))) :=
  ⟨h.ext _,hE.ext ((Ext.refl b w).alloc _),(Ext.refl b w).alloc _⟩
 have cR:=h.lt;cases hr:Sp.pS A o l with
 | error er =>
  have aS:Hid (bh A o l=.error er):=by unfold Hid bh;rw[hr]
  go_enter func205,ntmps205;go_wp2_with fail;refine(gl Rp b s m1 m2 o ho l ct _ jR.1 jR.2.1).mono ?_;intro e w1 hp;rw[hr]at hp;obtain⟨N,rfl,hf⟩:=hp;exact⟨rfl,bS aS.out (bC.ahead jR.2.2 ⟨N,rfl,hf⟩)⟩
 | ok xl =>
  obtain⟨x,l1⟩:=xl;cases hq:ea (Sp.tok l1) with
  | none =>
   have aS:Hid (bh A o l=.error (2,l1.length)):=by unfold Hid bh;rw[hr];simp only;rw[hq];rfl
   go_enter func205,ntmps205;go_wp2_with fail;refine(gl Rp b s m1 m2 o ho l ct _ jR.1 jR.2.1).mono ?_;intro e w1 hp;rw[hr]at hp;obtain⟨v,rfl,ct1,hv,h1,x1⟩:=hp;have c3:=h1.c3;have c8:=h1.c8;have Tt:=jR.2.1.ext x1;have Im:=vF Tt.rels (Sp.tok l1) h1.iF hq;clear hr hq;go_wp2_with fail;go_quiet (fail);go_wp2_with fail;refine(dZ (h1.drewN _) 2).mono ?_;rintro e w2⟨rfl,rfl⟩;go_wp2_with fail;exact⟨rfl,bS aS.out (bC.ahead ((jR.2.2.trans x1).drewN _) (gp (h1.drewN _) 2 2 rfl))⟩
  | some k =>
   have Ib:=wS hq;cases od:Sp.pS A o (Sp.next l1) with
   | error er =>
    have aS:Hid (bh A o l=.error er):=by unfold Hid bh;rw[hr];simp only;rw[hq];simp only;rw[od]
    go_enter func205,ntmps205;go_wp2_with fail;refine(gl Rp b s m1 m2 o ho l ct _ jR.1 jR.2.1).mono ?_;intro e w1 hp;rw[hr]at hp;obtain⟨v,rfl,ct1,hv,h1,x1⟩:=hp;have c3:=h1.c3;have c8:=h1.c8;have Tt:=jR.2.1.ext x1;have Im:=oW Tt.rels (Sp.tok l1) h1.iF hq;have Z4:Hid (aC l1≠3):=tU hq;clear hr hq;go_wp2_with fail;go_quiet (fail);go_wp2_with fail;refine(gQ (h1.drewN _) Z4.out).mono ?_;rintro e w2⟨rfl,h2,x2⟩;go_wp2_with fail;refine(gl Rp b s m1 m2 o ho (Sp.next l1) ct1 _ h2 (Tt.ext x2.iq)).mono ?_;intro e w3 BA;rw[od]at BA;obtain⟨N,rfl,hf⟩:=BA;exact⟨rfl,bS aS.out (bC.ahead ((jR.2.2.trans x1).trans x2.iq) ⟨N,rfl,hf⟩)⟩
   | ok yl =>
    obtain⟨y,l2⟩:=yl;have aS:Hid (bh A o l=.ok ((k,x,y),l2)):=by unfold Hid bh;rw[hr];simp only;rw[hq];simp only;rw[od]
    go_enter func205,ntmps205;go_wp2_with fail;refine(gl Rp b s m1 m2 o ho l ct _ jR.1 jR.2.1).mono ?_;intro e w1 hp;rw[hr]at hp;obtain⟨v,rfl,ct1,hv,h1,x1⟩:=hp;obtain⟨tl,ul,rfl⟩:=Rp.iface _ _ _ _ hv;have HV:=hid hv;have c3:=h1.c3;have c8:=h1.c8;have Tt:=jR.2.1.ext x1;have Im:=oW Tt.rels (Sp.tok l1) h1.iF hq;have Z4:Hid (aC l1≠3):=tU hq;clear hr hq hv;go_wp2_with fail;go_quiet (fail);go_wp2_with fail;refine(gQ (h1.drewN _) Z4.out).mono ?_;rintro e w2⟨rfl,h2,x2⟩;go_wp2_with fail;refine(gl Rp b s m1 m2 o ho (Sp.next l1) ct1 _ h2 (Tt.ext x2.iq)).mono ?_;intro e w3 BA;rw[od]at BA;obtain⟨v3,rfl,ct2,Tk,h3,x3⟩:=BA;obtain⟨tr,ur,rfl⟩:=Rp.iface _ _ _ _ Tk;have HV3:=hid Tk;have eg:=lU ((x1.trans x2.iq).trans x3) cR;have k0:=cell_of eg 0 (v:=I O 0) rfl;have k1:=cell_of eg 1 (v:=.nilIface) rfl;have k2:=cell_of eg 2 (v:=.nilIface) rfl;have f0:=aw eg 0;have f1:=aw eg 1;have f2:=aw eg 2;clear od Tk;have hW:=Gb eg (I O (k:Nat)) (σ tl ul) (σ tr ur);have q0:=cell_of hW 0 (v:=I O (k:Nat)) rfl;have q1:=cell_of hW 1 (v:=σ tl ul) rfl;have q2:=cell_of hW 2 (v:=σ tr ur) rfl;have HR:Hid (Rd b s m1 m2 l2 o ct2 (((w3.setCell ⟨w.heap.size,0,M⟩ (I O (k:Nat))).setCell ⟨w.heap.size,1,M⟩ (σ tl ul)).setCell ⟨w.heap.size,2,M⟩ (σ tr ur))) :=
     ((h3.dU (p:=⟨w.heap.size,0,M⟩) (by show w.heap.size≠b;omega) (ld eg (by decide)) _).dU (p:=⟨w.heap.size,1,M⟩) (by show w.heap.size≠b;omega) (Fx (ld eg (by decide))) _).dU (p:=⟨w.heap.size,2,M⟩) (by show w.heap.size≠b;omega) (Fx (Fx (ld eg (by decide)))) _
    have HX:Hid (Ext b w (((w3.setCell ⟨w.heap.size,0,M⟩ (I O (k:Nat))).setCell ⟨w.heap.size,1,M⟩ (σ tl ul)).setCell ⟨w.heap.size,2,M⟩ (σ tr ur))) :=
     (((((jR.2.2.trans x1).trans x2.iq).trans x3).setCell (p:=⟨w.heap.size,0,M⟩) (.inr (Nat.le_refl _)) _).setCell (p:=⟨w.heap.size,1,M⟩) (.inr (Nat.le_refl _)) _).setCell (p:=⟨w.heap.size,2,M⟩) (.inr (Nat.le_refl _)) _
    have Q0:=hid q0;have Q1:=hid q1;have Q2:=hid q2;clear q0 q1 q2 hW;go_wp2_with fail;exact bodyPost_ret (v:=J #[I O (k:Nat),σ tl ul,σ tr ur]) (by simp[results,results205,go_sem,Q0.out,Q1.out,Q2.out]) rfl (fl aS.out ⟨tl,ul,tr,ur,ct1,rfl,Ib,HV,HV3⟩ HR HX)
def eu(lo hi:Nat)(w w':Wd):Prop:=∀k,lo<=k->k<hi->¬ om w.heap[k]?->w'.heap[k]?=w.heap[k]?
theorem eu.refl(lo hi:Nat)(w:Wd):eu lo hi w w:=fun _ _ _ _=>rfl
theorem Ext.FL(h:Ext b w w')(hh:hi<=w.heap.size)(hb:b<lo∨hi<=b):eu lo hi w w' :=
 fun k h1 h2 hn=>h.block k (by omega) (by omega) (fun _=>hn)
abbrev aA(ct:Int × Int):Int × Int:=(RowKit.wrap64 (ct.1+1),ct.2)
abbrev aJ(ct:Int × Int):Int × Int:=(ct.1,RowKit.wrap64 (ct.2+1))
def ng(T:Int × Int->Nat->Nat->Wd->Value->τ->Int × Int->Prop)(ct:Int × Int)(lo hi:Nat)(w:Wd)(v:Value)(xs:List τ)(aX:Int × Int):Prop :=
 ∃(vs:List Value) (f:Nat->Int × Int),w.ownsRow lo 234 1 v xs.length vs/\(∀g,v.ownBlock=Y g->g<hi)/\(∀(i:Nat) (u:Value) (x:τ),vs[i]?=Y u->xs[i]?=Y x->T (f i) lo hi w u x (f (i+1)))/\f 0=ct/\f xs.length=aX
structure jY(A:eR)(Rp:mR A) where
 T:Int × Int->Nat->Nat->Wd->Value->A.T->Int × Int->Prop
 mono:∀{ct aX:Int × Int} {lo hi BC oA:Nat} {w w':Wd} {v:Value} {x:A.T},T ct lo hi w v x aX->BC<=lo->hi<=oA->eu lo hi w w'->T ct BC oA w' v x aX
 iface:∀{ct aX:Int × Int} {lo hi:Nat} {w:Wd} {v:Value} {x:A.T},T ct lo hi w v x aX->∃t u,v=σ t u
 assign:∀(ct:Int × Int) (lo hi:Nat) (w:Wd) (k:Nat) (v:Value) (x:A.S) (aX:Int × Int),k<8->Rp.S (aA ct) v x aX->T ct lo hi w (σ 279 (J #[I O ct.1,I O (k:Nat),v])) (A.assign k x) aX
 read:∀(ct:Int × Int) (lo hi:Nat) (w:Wd) (k:Nat),k<8->T ct lo hi w (σ 283 (J #[I O ct.1,I O (k:Nat)])) (A.read k) (aA ct)
 assert:∀(ct:Int × Int) (lo hi:Nat) (w:Wd) (k:Nat) (v:Value) (x:A.S) (ct1:Int × Int) (u:Value) (y:A.S) (ct2:Int × Int),k<6->Rp.S (aJ (aA ct)) v x ct1->Rp.S ct1 u y ct2->T ct lo hi w (σ 287 (J #[I O ct.1,I O ct.2,I O (k:Nat),v,u])) (A.assert k x y) ct2
 ite:∀(ct:Int × Int) (lo hi:Nat) (w:Wd) (k:Nat) (v:Value) (x:A.S) (ct1:Int × Int) (u:Value) (y:A.S) (ct2:Int × Int) (bv:Value) (xs:List A.T) (mJ:Int × Int),k<6->Rp.S (aA ct) v x ct1->Rp.S ct1 u y ct2->ng T ct2 lo hi w bv xs mJ ->
  T ct lo hi w (σ 290 (J #[I O ct.1,I O (k:Nat),v,u,bv,Z M 0 0,U false])) (A.ite k x y xs M) mJ
 iteElse:∀(ct:Int × Int) (lo hi:Nat) (w:Wd) (k:Nat) (v:Value) (x:A.S) (ct1:Int × Int) (u:Value) (y:A.S) (ct2:Int × Int) (bv:Value) (xs:List A.T) (mJ:Int × Int) (cv:Value) (ys:List A.T) (tB:Int × Int),k<6->Rp.S (aA ct) v x ct1->Rp.S ct1 u y ct2->ng T ct2 lo hi w bv xs mJ->ng T mJ lo hi w cv ys tB ->
  T ct lo hi w (σ 290 (J #[I O ct.1,I O (k:Nat),v,u,bv,cv,U true])) (A.ite k x y xs (Y ys)) tB
 loop:∀(ct:Int × Int) (lo hi:Nat) (w:Wd) (k:Nat) (v:Value) (x:A.S) (ct1:Int × Int) (u:Value) (y:A.S) (ct2:Int × Int) (bv:Value) (xs:List A.T) (mJ:Int × Int),k<6->Rp.S (aA ct) v x ct1->Rp.S ct1 u y ct2->ng T ct2 lo hi w bv xs mJ ->
  T ct lo hi w (σ 293 (J #[I O ct.1,I O (k:Nat),v,u,bv])) (A.loop k x y xs) mJ
theorem Ax(h:w.ownsRow lo e 1 v n vs)(hl:BC<=lo)(hg:∀g,v.ownBlock=Y g->g<hi)(hs:eu lo hi w w')(he:e≠226:=by decide):w'.ownsRow BC e 1 v n vs:=by
 obtain⟨h1,h2⟩:=h;refine⟨h1,?_⟩
 rcases h2 with h2 | ⟨g,cap,cur,rfl,hb,hh,r⟩
 ·exact .inl h2
 ·exact .inr ⟨g,cap,cur,rfl,Nat.le_trans hl hb,by rw[hs g hb (hg g rfl) (ld hh he)];exact hh,r⟩
theorem ng.mono{Rp:mR A}(Rt:jY A Rp){oA:Nat}{xs:List A.T}(h:ng Rt.T ct lo hi w v xs aX)(hl:BC<=lo)(hh:hi<=oA)(hs:eu lo hi w w'):ng Rt.T ct BC oA w' v xs aX:=by obtain⟨vs,f,h1,h2,h3,h4⟩:=h;exact⟨vs,f,Ax h1 hl h2 hs,fun g hg=>Nat.lt_of_lt_of_le (h2 g hg) hh,fun i u x hu hx=>Rt.mono (h3 i u x hu hx) hl hh hs,h4⟩
theorem Ext.grown{row:Option Nat}(h:Ext b a w)(hg:w.grownBy w' row)(hr:∀k,row=Y k->a.heap.size<=k):Ext b a w' :=
 ⟨hg.os.trans h.os,hg.tape.trans h.tape,hg.output.trans h.output,Nat.le_trans h.size hg.size,fun k hk hb hn=>(hg.block k (Nat.lt_of_lt_of_le hk h.size) (fun e=>by have:=hr k e.symm;omega)).trans (h.block k hk hb hn)⟩
theorem yF:(prog.info? 234).map (fun i=>(i.zero,i.size,i.bytes))=Y (Y .nilIface,1,16):=by kernel_rfl
def zN(T:Int × Int->Nat->Nat->Wd->Value->τ->Int × Int->Prop)(ct:Int × Int)(base:Nat)(w:Wd)(t:Value)(vs:List Value)(xs:List τ)(aX:Int × Int):Prop :=
 ∃f:Nat->Int × Int,(∀(i:Nat) (u:Value) (x:τ),vs[i]?=Y u->xs[i]?=Y x->∃lo hi,base<=lo/\hi<=w.heap.size/\(∀g,t.ownBlock=Y g->g<lo∨hi<=g)/\T (f i) lo hi w u x (f (i+1)))/\f 0=ct/\f xs.length=aX
def rm{Rp:mR A}(Rt:jY A Rp)(f:Nat)(b:Nat)(s:ByteArray)(m1 m2 o n:Nat)(st:Sp.Bs->Sp.R A.T):Prop :=
 ∀l ct w,l.length<n->Rd b s m1 m2 l o ct w->Env b m1 m2 w->Calls prog f #[ρ (Y ⟨b,0,M⟩)] w (ml (fun ct w' v x aX=>Rt.T ct w.heap.size w'.heap.size w' v x aX) b s m1 m2 o ct w (st l))
theorem EO{st:Sp.Bs->Sp.R A.T}{xs:List A.T}(h:¬ aC l=2):cX A st m xs l=.ok (xs,l):=by
 cases m with
 | zero=>rfl
 | succ m=>unfold cX;rw[if_neg h]
theorem Ce(h:w.ownsRow base e 1 v n vs)(x:Ext b w w')(hb:b<base)(he:e≠226:=by decide):w'.ownsRow base e 1 v n vs:=by
 obtain⟨h1,h2⟩:=h;refine⟨h1,?_⟩
 rcases h2 with h2 | ⟨g,cap,cur,rfl,hg,hh,r⟩
 ·exact .inl h2
 ·exact .inr ⟨g,cap,cur,rfl,hg,x.bF hh (by omega) (eW he),r⟩
theorem mZ(h:w.ownsRow base e 1 v n vs):∀g,v.ownBlock=Y g->base<=g/\g<w.heap.size:=by
 intro g hg
 rcases h.2 with⟨rfl,_⟩ | ⟨g',cap,cur,rfl,hb,hh,_⟩
 ·simp[Value.ownBlock]at hg
 ·simp[Value.ownBlock]at hg
  subst hg;exact⟨hb,ad hh⟩
theorem Sy(h:w.ownsRow base e 1 v n vs)(he:e≠226)(hk:v.ownBlock=Y k):¬ om w.heap[k]?:=by
 rcases h.2 with⟨rfl,_⟩ | ⟨g',cap,cur,rfl,hb,hh,_⟩
 ·simp[Value.ownBlock]at hk
 ·simp[Value.ownBlock]at hk
  subst hk;exact ld hh he
theorem ID{Rp:mR A}(Rt:jY A Rp){t:Value}{xs:List A.T}(h:w.ownsRow base 234 1 t xs.length vs)(he:zN Rt.T ct base w t vs xs aX):ng Rt.T ct base w.heap.size w t xs aX:=by obtain⟨f,he,h0,h1⟩:=he;refine⟨vs,f,h,fun g hg=>(mZ h g hg).2,fun i u x hu hx=>?_,h0,h1⟩;obtain⟨lo,hi,h1,h2,_,h4⟩:=he i u x hu hx;exact Rt.mono h4 h1 h2 (eu.refl _ _ _)
theorem FY{Rp:mR A}(Rt:jY A Rp){t:Value}{xs:List A.T}{x:A.T}
  (ho:wr.ownsRow base 234 1 t xs.length vs) (he:zN Rt.T ct base wr t vs xs ct1) (hb:b<base) (Of:base<=wr.heap.size) (x1:Ext b wr w1) (hv:Rt.T ct1 wr.heap.size w1.heap.size w1 u x ct2) (hg:w1.grownBy w2 t.ownBlock)
  (z6:v'.ownBlock=t.ownBlock∨v'.ownBlock=Y (w1.heap.size+1)):zN Rt.T ct base w2 v' (vs ++ [u]) (xs ++ [x]) ct2:=by
 have hlen:vs.length=xs.length:=by simpa using ho.1
 have iC:=x1.size;have fK:=hg.size;obtain⟨f,he,h0,hf⟩:=he;refine⟨fun i=>if i<=xs.length then f i else ct2,?_,by simp[h0],by simp;omega⟩;intro i u' x' hu hx;show ∃lo hi,base<=lo/\hi<=w2.heap.size/\(∀g,v'.ownBlock=Y g->g<lo∨hi<=g)/\Rt.T (if i<=xs.length then f i else ct2) lo hi w2 u' x' (if i+1<=xs.length then f (i+1) else ct2);by_cases hi:i<vs.length
 ·rw[List.getElem?_append_left hi]at hu
  rw[List.getElem?_append_left (by omega)]at hx;obtain⟨lo,oA,h1,h2,h3,h4⟩:=he i u' x' hu hx;rw[if_pos (by omega),if_pos (by omega)];refine⟨lo,oA,h1,by omega,fun g pM=>?_,Rt.mono h4 (Nat.le_refl _) (Nat.le_refl _) ?_⟩
  ·rcases z6 with z6 | z6
   ·exact h3 g (by rw[<-z6];exact pM)
   ·rw[z6]at pM;cases pM;exact .inr (by omega)
  ·intro k kM gD hn
   rw[hg.block k (by omega) (fun e=>by rcases h3 k e.symm with h | h<;>omega)];exact x1.block k (by omega) (by omega) (fun _=>hn)
 ·have e:i=vs.length:=by
   have:=(List.getElem?_eq_some_iff.1 hu).1;simp at this;omega
  subst e;rw[List.getElem?_append_right (Nat.le_refl _)]at hu;rw[hlen,List.getElem?_append_right (Nat.le_refl _)]at hx;simp at hu hx;subst hu hx;rw[if_pos (by omega),if_neg (by omega),hlen,hf];refine⟨wr.heap.size,w1.heap.size,Of,fK,fun g pM=>?_,Rt.mono hv (Nat.le_refl _) (Nat.le_refl _) ?_⟩
  ·rcases z6 with z6 | z6
   ·exact .inl (mZ ho g (by rw[<-z6];exact pM)).2
   ·rw[z6]at pM;cases pM;exact .inr (by omega)
  ·intro k kM gD _
   exact hg.block k gD (fun e=>by have:=(mZ ho k e.symm).2;omega)
theorem gk{Rp:mR A}(Rt:jY A Rp)(b:Nat)(s:ByteArray)(m1 m2 o n:Nat)(st:Sp.Bs->Sp.R A.T)(cQ:Hid (∀l x l1,st l=.ok (x,l1)->l1.length<l.length))
  (gI:rm Rt 122 b s m1 m2 o n st) (l:Sp.Bs) (ct:Int × Int) (w:Wd) (hl:l.length<n) (h:Rd b s m1 m2 l o ct w) (hE:Env b m1 m2 w) :
  Calls prog 89 #[ρ (Y ⟨b,0,M⟩)] w (ml (fun ct w' v xs aX=>ng Rt.T ct w.heap.size w'.heap.size w' v xs aX) b s m1 m2 o ct w (cX A st (l.length+1) [] l)):=by
 obtain⟨i0,hi,KD,jm,gU⟩:=info_parts yF;have cR:=h.lt;have aay:l.length<=400:=by have:=h.len;have:=h.sz;omega
 go_enter func89,ntmps89;go_wp2_with fail
 go_loopw [3] (fun t wr=>∃(xs:List A.T) (vs:List Value) (l':Sp.Bs) (m:Nat) (aX:Int × Int),Hid (wr.ownsRow w.heap.size 234 1 t xs.length vs/\zN Rt.T ct w.heap.size wr t vs xs aX)/\Hid (l'.length<m/\xs.length+l'.length<=l.length/\cX A st (l.length+1) [] l=cX A st m xs l')/\Hid (Rd b s m1 m2 l' o aX wr/\Env b m1 m2 wr/\Ext b w wr)) (fun _ wr=>gS b s wr)
 case atStart=>exact⟨[],[],l,l.length+1,ct,⟨World.ownsRow_nil _ _ _ _,fun _=>ct,fun i u x hu=>by simp at hu,rfl,rfl⟩,⟨Nat.lt_succ_self _,by simp,rfl⟩,h,hE,Ext.refl _ _⟩
 case round =>
  obtain⟨xs,vs,l',m,aX,UO,kL,df⟩:=hrel;have c2:=df.1.c2;by_cases hk:aC l'=2
  ·have c2':wr.cell? ⟨b,2,M⟩=Y (I O 2):=by rw[c2,hk];rfl
   have HK:=hid hk;clear c2 hk;go_wp2_with fail;have Ww:l'.length<n:=by have:=kL.2.1;omega
   refine(gI l' aX wr Ww df.1 df.2.1).mono ?_;intro e w1 hp;cases hr:st l' with
   | error er =>
    rw[hr]at hp;obtain⟨N,rfl,hf⟩:=hp;have aS:cX A st (l.length+1) [] l=.error er:=by
     rw[kL.2.2];cases m with
     | zero=>exact absurd kL.1 (by omega)
     | succ m=>unfold cX;rw[if_pos HK.out,hr]
    exact⟨rfl,bS aS (bC.ahead df.2.2 ⟨N,rfl,hf⟩)⟩
   | ok xl =>
    obtain⟨x,l1⟩:=xl;rw[hr]at hp;obtain⟨v,rfl,ct1,hv,h1,x1⟩:=hp;obtain⟨tv,uv,rfl⟩:=Rt.iface hv;have HV:=hid hv;have HR:=hid hr;have ox:Hid (w1.ownsRow w.heap.size 234 1 u3 xs.length vs) :=
     Ce UO.1 x1 cR
    clear hv hr;go_wp2_with (first
     | (at_builtin;refine wpList_append_own_at _ rfl _ _ 82 rfl w.heap.size 234 i0 .nilIface 1 16 underlying82 hi KD jm gU rfl (by decide) _ _ _ rfl (ox.alloc _) ⟨w1.heap.size,0,M⟩ 1 1 [σ tv uv] rfl rfl (cell_one_new _ _ _) ?q1 ?q2 ?q3 ?q4 ?_))
    case q1=>intro u hu;simp at hu;subst hu;rfl
    case q2=>have:=kL.2.1;unfold maxLen;omega
    case q3=>have:=kL.2.1;omega
    case q4=>have:=df.2.2.size;have:=x1.size;simp;omega
    intro v' w2 Rq NL W9 XM;have yK:=C9 NL;have nM:∀k,Value.ownBlock u3=Y k->w.heap.size<=k:=fun k hk=>(mZ UO.1 k hk).1
    have Of:w.heap.size<=wr.heap.size:=df.2.2.size;have Kq:zN Rt.T ct w.heap.size w2 v' (vs ++ [σ tv uv]) (xs ++ [x]) ct1 :=
     FY Rt UO.1 UO.2 cR Of x1 HV.out yK (by simpa using XM)
    have jQ:Ext b w w2:=(df.2.2.trans x1).grown yK nM;have Ws:Rd b s m1 m2 l1 o ct1 w2:=h1.bF (yK.block b h1.lt (fun e=>by have:=nM b e.symm;omega)) (fun k _ hk eg=>yK.block k hk (fun e=>Sy ox.out (by decide) e.symm eg));have hd:=cQ.out _ _ _ HR.out;have cI:gS b s w2<gS b s wr:=by rw[Ws.rest,df.1.rest];exact hd
    have A1:Hid (w2.ownsRow w.heap.size 234 1 v' (xs ++ [x]).length (vs ++ [σ tv uv])/\zN Rt.T ct w.heap.size w2 v' (vs ++ [σ tv uv]) (xs ++ [x]) ct1):=⟨by simpa using Rq,Kq⟩;have A2:Hid (l1.length<m - 1/\(xs ++ [x]).length+l1.length<=l.length/\cX A st (l.length+1) [] l=cX A st (m - 1) (xs ++ [x]) l1):=by
     have h1:=kL.1;have h2:=kL.2.1;refine⟨by omega,by simp;omega,?_⟩;rw[kL.2.2];cases m with
     | zero=>omega
     | succ m =>
      conv=>lhs;unfold cX
      rw[if_pos HK.out,HR.out];rfl
    have A3:Hid (Rd b s m1 m2 l1 o ct1 w2/\Env b m1 m2 w2/\Ext b w w2):=⟨Ws,hE.ext jQ,jQ⟩;clear Rq NL W9 XM yK Kq;go_wp2_with fail;exact⟨⟨_,_,_,_,_,A1,A2,A3⟩,cI⟩
  ·have n2:¬ (((aC l':Nat):Int)=2):=by omega
   have b2:(((aC l':Nat):Int) == 2)=false:=by simpa using n2
   have aS:Hid (cX A st (l.length+1) [] l=.ok (xs,l')):=by unfold Hid;rw[kL.2.2,EO hk]
   have gT:Hid (ng Rt.T ct w.heap.size wr.heap.size wr u3 xs aX):=ID Rt UO.1 UO.2;clear hk;generalize aC l'=kd at *;go_wp2_with fail;go_ret;exact fl aS.out gT df.1 df.2.2
end
end Go.Proofs.YtiopfihjmkfdmaaGreatDoor
