import Derived.Test.YtiopfihjmkfdmabGreatDoorC4
namespace Go.Proofs.YtiopfihjmkfdmabGreatDoor
open Go.Value renaming int->I,agg->J,iface->σ,bool->U,tuple->φ,string->χ,pointer->ρ
open Go.IntKind renaming i64->O,i16->ψ
open Go.Ending renaming returned->υ
open Option renaming none->M,some->Y
open Go.Obj renaming cells->L
open Go.Proofs.Tryz Sp
open Go.RowKit
set_option maxRecDepth 100000
set_option maxHeartbeats 16000000
section
variable{b m1 m2 o m j k N:Nat}
variable{w w':Wd}
variable{A:fE}
variable{s:ByteArray}
variable{l l':Sp.Bs}
variable{ct bj:Int×Int}
variable{f er:Nat×Nat}
variable{x y v a0 a1 a2:Value}
variable{α:Type}
structure nZ(A:fE) where
 S:Int×Int->Value->A.S->Int×Int->Prop
 iface:∀ct v x bj,S ct v x bj->∃t u,v=σ t u
 num:∀ct n,n<=32767->S ct (σ 180 (I ψ (n:Nat))) (A.num n) ct
 name:∀ct k,k<8->S ct (σ 272 (I O (k:Nat))) (A.name k) ct
 neg:∀ct v x bj,S ct v x bj->S ct (σ 351 (J #[v])) (A.neg x) bj
 bin:∀ct k v x ct1 u y ct2,k<3->S ct v x ct1->S ct1 u y ct2->S ct (σ 355 (J #[I O (k:Nat),I O 0,v,u])) (A.bin k x y) ct2
 binSite:∀ct k v x ct1 u y ct2,3<=k->k<5->S ct v x ct1->S (ct1.1,RowKit.wrap64 (ct1.2+1)) u y ct2->S ct (σ 355 (J #[I O (k:Nat),I O ct1.2,v,u])) (A.bin k x y) ct2
structure Env(b m1 m2:Nat)(w:Wd):Prop where
 laid:Laid w
 ops:j5 m1 w
 rels:iu m2 w
 ne1:m1≠b
 ne2:m2≠b
 nb:11<=b
theorem Laid.ext(h:Laid w)(x:Ext b w w')(hb:11<=b):Laid w':=h.below (x.below hb h.size) È
theorem Env.ext(h:Env b m1 m2 w)(x:Ext b w w'):Env b m1 m2 w':=
 ⟨h.laid.ext x h.nb,h.ops.ext x h.ne1,h.rels.ext x h.ne2,h.ne1,h.ne2,h.nb⟩
def oZ(Rp:nZ A)(b:Nat)(s:ByteArray)(m1 m2 o:Nat)(ct:Int×Int)(w:Wd):Sp.R A.S->Ending->Wd->Prop
 |.ok (x,l'),e,w'=>∃v,e=υ v/\∃bj,Rp.S ct v x bj/\Rd b s m1 m2 l' o bj w'/\Ext b w w'
 |.error er,e,w'=>bJ s b w er e w'
def iA(b:Nat)(s:ByteArray)(w:Wd):Nat:=match w.cell? ⟨b,1,M⟩ with
 |some (I _ q)=>s.size-q.toNat
 |_=>0
theorem Rd.rest(h:Rd b s m1 m2 l o ct w):iA b s w=l.length:=by unfold iA;rw[h.c1];have:=h.len;simp;omega
theorem Rd.jE(h:Rd b s m1 m2 l o ct w):(Sp.tok l).length<=400:=by have:=ef l;have:=fY l;have:=h.len;have:=h.sz;omega
theorem heap_drewN(w:Wd)(k:Nat):(w.drewN k).heap=w.heap:=by simp[World.drewN]
theorem j5.drewN(h:j5 m w)(k:Nat):j5 m (w.drewN k):=by obtain⟨es,clock,hh,r⟩:=h;exact⟨es,clock,by rw[heap_drewN];exact hh,r⟩
theorem iu.drewN(h:iu m w)(k:Nat):iu m (w.drewN k):=by obtain⟨es,clock,hh,r⟩:=h;exact⟨es,clock,by rw[heap_drewN];exact hh,r⟩
theorem Rd.drewN(h:Rd b s m1 m2 l o ct w)(k:Nat):Rd b s m1 m2 l o ct (w.drewN k):=h.bH rfl (λ_ _ _ _=>rfl)
theorem Ext.drewN(h:Ext b w w')(k:Nat):Ext b w (w'.drewN k):=⟨h.os,h.tape,h.output,h.size,h.block⟩
theorem rC(h:j5 m w)(t:Sp.Bs)(ht:t.length<=400)(ho:eA t=M)(k:Nat) :
  (Instr.lookup 138 (.map (Y m)) (χ ⟨t.toArray⟩) true).run prog (w.drewN k)=.ok (φ #[I O 0,U false]) (w.drewN k):=by
 rw[Fh (h.drewN k) t ht,ho];rfl
theorem ry(h:j5 m w)(t:Sp.Bs)(ht:t.length<=400)(ho:eA t=Y j)(k:Nat) :
  (Instr.lookup 138 (.map (Y m)) (χ ⟨t.toArray⟩) true).run prog (w.drewN k)=.ok (φ #[I O (j:Nat),U true]) (w.drewN k):=by
 rw[Fh (h.drewN k) t ht,ho];rfl
theorem sO{t:Sp.Bs}(h:eA t=Y k):k<5:=by
 unfold eA at h
 repeat' split at h
 all_goals first|(cases h;decide)|cases h
theorem fZ(h:eA (Sp.tok l)=Y k):(Sp.next l).length<l.length:=by apply gl;rw[<-ef];apply List.length_pos_iff.2;intro e;rw[e]at h;simp[eA]at h
theorem zG(h:eA (Sp.tok l)=Y k):aC l≠3:=by
 intro h3;obtain⟨db,hd⟩:=dA h3
 revert h db hd
 generalize Sp.tok l=t;intro h db hd;cases t with
 |nil=>exact db rfl
 |cons c r=>
  have hc:=hd c Ä;unfold bC at hc;simp at hc;unfold eA at h
  repeat' split at h
  all_goals first
   |(rename_i e;injection e with e1 _;subst e1;revert hc;decide)
   |cases h
theorem Ext.jd(h:Ext b (w.drewN k) w'):Ext b w w':=⟨h.os,h.tape,h.output,h.size,h.block⟩
theorem Rd.ext(h:Rd b s m1 m2 l o ct w)(ob:Obj):Rd b s m1 m2 l o ct (w.alloc ob):=h.bH (Below.heap_alloc _ _ _ h.lt) (λ_ _ hk _=>Below.heap_alloc _ _ _ hk)
theorem nC{c:Array Value}{t:TypeId}(x:Ext b (w.alloc (L c t f)) w')(hb:b<w.heap.size)(ht:t≠180:=by decide):w'.heap[w.heap.size]?=Y (L c t f):=
 x.bH (heap_alloc_new _ _) À (fK ht)
theorem Rd.eG(h:Rd b s m1 m2 l o ct w){p:Addr}(hp:p.block≠b)(hn:¬pf w.heap[p.block]?)(u:Value):Rd b s m1 m2 l o ct (w.setCell p u):=
 h.bH (Æ _ _ _ _ (λe=>hp e.symm)) (λk _ _ hk=>Æ _ _ _ _ (λe=>hn (by rw[<-e];exact hk)))
def fT(k:Nat)(q:Int)(x y:Value):Array Value:=#[I O (k:Nat),I O q,x,y]
theorem Fc{q:Int}(h:Bk w N (fT k q x y) 355)(q':Int):(w.setCell ⟨N,1,M⟩ (I O q')).heap[N]?=Y (L (fT k q' x y) 355):=by rw[ai h 1 (I O q')];rfl
theorem sP{q:Int}(h:Bk w N (fT k q x y) 355)(v:Value):(w.setCell ⟨N,3,M⟩ v).heap[N]?=Y (L (fT k q x v) 355):=by rw[ai h 3 v];rfl
theorem D7(Rp:nZ A)(b:Nat)(s:ByteArray)(m1 m2 o n:Nat)(u:Sp.Bs->Sp.R A.S)
  (da:Hid (∀l x l1,u l=.ok (x,l1)->l1.length<=l.length))
  (hu:Hid (∀l ct w,l.length<n->Rd b s m1 m2 l o ct w->Env b m1 m2 w->Calls prog 227 #[ρ (Y ⟨b,0,M⟩)] w (oZ Rp b s m1 m2 o ct w (u l))))
  (l:Sp.Bs) (ct:Int×Int) (w:Wd) (hl:l.length<n) (h:Rd b s m1 m2 l o ct w) (hE:Env b m1 m2 w):
  Calls prog 214 #[ρ (Y ⟨b,0,M⟩),I O 1,.func (Fn.func 227) #[ρ (Y ⟨b,0,M⟩)] #[]] w (oZ Rp b s m1 m2 o ct w (bS A 1 u l)):=by
 go_enter func214,ntmps214;go_wp2_with fail;refine(hu.out l ct _ hl h hE).mono ?_;intro e w1 hp;cases hr:u l with
 |error er=>rw[hr]at hp;obtain⟨N,rfl,hf⟩:=hp;refine⟨rfl,?_⟩;unfold bS;rw[hr];exact⟨N,rfl,hf⟩
 |ok xl=>
  obtain⟨x,l1⟩:=xl;rw[hr]at hp;obtain⟨v,rfl,ct1,hv,h1,x1⟩:=hp;obtain⟨tv,uv,rfl⟩:=Rp.iface _ _ _ _ hv;go_wp2_with fail
  go_loopw [7] (λt wr=>∃(tt:TypeId) (uu:Value) (x':A.S) (l':Sp.Bs) (m:Nat) (bj:Int×Int),t=σ tt uu/\Hid (Rp.S ct (σ tt uu) x' bj)/\Hid (l'.length<m/\l'.length<n/\bS A 1 u l=bK A 1 u m x' l')/\Hid (Rd b s m1 m2 l' o bj wr/\Env b m1 m2 wr/\Ext b w wr)) (λ_ wr=>iA b s wr)
  case atStart=> 
   refine⟨tv,uv,x,l1,l1.length+1,ct1,rfl,hv,⟨Nat.lt_succ_self _,?_,?_⟩,h1,hE.ext x1,x1⟩
   .have:=da.out l x l1 hr
    omega
   .unfold bS
    rw[hr]
  case round=>
   obtain⟨tt,uu,x',l',m,bj,rfl,Qn,lR,dq⟩:=hrel;have c3:=dq.1.c3;have c7:=dq.1.c7;cases ho:eA (Sp.tok l') with
   |none=>
    have Kn:=rC dq.2.1.ops (Sp.tok l') dq.1.jE ho;have HO:=hid ho;clear ho;have aW:Hid (bS A 1 u l=.ok (x',l')):=by
     unfold Hid;rw[lR.2.2];cases m with
     |zero=>rfl
     |succ m=>unfold bK;rw[HO.out]
    clear HO;go_wp2_with fail;go_quiet (fail);go_wp2_with fail;go_ret;rw[aW.out];exact⟨_,rfl,bj,Qn,dq.1.drewN _,dq.2.2.drewN _⟩
   |some k=>
    have Kn:=ry dq.2.1.ops (Sp.tok l') dq.1.jE ho;have zN:k<5:=sO ho;have HO:=hid ho;clear ho;by_cases MP:cT k=1
    .have Je:=hid MP
     clear MP;go_wp2_with fail;go_quiet (fail);go_wp2_with fail;refine(jI k zN _).mono ?_;rintro e w2⟨rfl,rfl⟩;rw[Je.out];go_wp2_with fail;refine(iv (dq.1.drewN _) (zG HO.out)).mono ?_;rintro e w2⟨rfl,h2,x2⟩;have H2:Hid (Rd b s m1 m2 (Sp.next l') o bj (w2.alloc (L #[I O (k:Nat),I O 0,σ tt uu,.nilIface] 355))):=h2.ext _;have abe:=h2.lt;have df:=fZ HO.out;have X3:Hid (Ext b w (w2.alloc (L #[I O (k:Nat),I O 0,σ tt uu,.nilIface] 355))/\Ext b wr (w2.alloc (L #[I O (k:Nat),I O 0,σ tt uu,.nilIface] 355))):=⟨(dq.2.2.trans x2.jd).alloc _,x2.jd.alloc _⟩;have XL:Hid ((w2.alloc (L #[I O (k:Nat),I O 0,σ tt uu,.nilIface] 355)).heap[w2.heap.size]?=Y (L (fT k 0 (σ tt uu) .nilIface) 355)):=heap_alloc_new _ _;have fH:w.heap.size<=w2.heap.size:=(dq.2.2.trans x2.jd).size;go_wp2_with fail;refine(rl k zN _).mono ?_;rintro e w2'⟨rfl,rfl⟩;by_cases im:3<=k
     .rw[show decide (3<=k)=true from decide_eq_true im]
      go_wp2_with fail;generalize w2.alloc (L #[I O (k:Nat),I O 0,σ tt uu,.nilIface] 355)=wn at*;refine(gG H2.out).mono ?_;rintro e w3⟨rfl,h3,x3⟩;have eQ:w3.heap[w2.heap.size]?=Y (L (fT k 0 (σ tt uu) .nilIface) 355):=by exact x3.bH XL.out À (fK É)
      have k1:=cell_of eQ 1 (v:=I O 0) rfl;have f1:=ay eQ 1;have Qt:=Fc eQ bj.2;have H3:Hid (Rd b s m1 m2 (Sp.next l') o (bj.1,RowKit.wrap64 (bj.2+1)) (w3.setCell ⟨w2.heap.size,1,M⟩ (I O bj.2))):=h3.eG (p:=⟨w2.heap.size,1,M⟩) (by show w2.heap.size≠b;omega) (mf eQ É) _;have X4:Hid (Ext b w (w3.setCell ⟨w2.heap.size,1,M⟩ (I O bj.2))/\Env b m1 m2 (w3.setCell ⟨w2.heap.size,1,M⟩ (I O bj.2))):=by have e:=(X3.1.trans x3).setCell (p:=⟨w2.heap.size,1,M⟩) (.inr fH) (I O bj.2);exact⟨e,hE.ext e⟩
      have Xj:=hid Qt;clear Qt eQ;go_wp2_with fail;clear k1 f1;generalize w3.setCell ⟨w2.heap.size,1,M⟩ (I O bj.2)=w5 at*;have DB:=hu.out (Sp.next l') _ w5 (by have:=lR.2.1;omega) H3.out X4.2;refine DB.mono ?_;intro e w4 AJ;cases tS:u (Sp.next l') with
      |error er=>
       rw[tS]at AJ;have aW:bS A 1 u l=.error er:=by
        rw[lR.2.2];cases m with
        |zero=>exact absurd lR.1 À
        |succ m=>unfold bK;rw[HO.out];simp only;rw[Á Je.out,tS]
       obtain⟨N,rfl,hf⟩:=AJ;refine⟨rfl,?_⟩;rw[aW];exact bJ.ahead X4.1 ⟨N,rfl,hf⟩
      |ok yl=>
       obtain⟨y,l2⟩:=yl;rw[tS]at AJ;obtain⟨vy,rfl,vk,BS,h4,x4⟩:=AJ;obtain⟨ty,uy,rfl⟩:=Rp.iface _ _ _ _ BS;have hd4:=da.out _ _ _ tS;have HB:Hid (Rp.S ct (σ 355 (J #[I O (k:Nat),I O bj.2,σ tt uu,σ ty uy])) (A.bin k x' y) vk):=Rp.binSite ct k _ _ _ _ _ _ im zN Qn.out BS;have re:Hid (l2.length<m-1/\l2.length<n/\bS A 1 u l=bK A 1 u (m-1) (A.bin k x' y) l2):=by
        have:=lR.1;have:=lR.2.1;refine⟨À,À,?_⟩;rw[lR.2.2];cases m with
        |zero=>exact absurd lR.1 À
        |succ m=>
         have e:bK A 1 u (m+1) x' l'=bK A 1 u m (A.bin k x' y) l2:=by
          conv=>lhs;unfold bK
          rw[HO.out];simp only;rw[Á Je.out,tS]
         exact e
       have eQ:w4.heap[w2.heap.size]?=Y (L (fT k bj.2 (σ tt uu) .nilIface) 355):=by exact x4.bH Xj.out À (fK É)
       have k3:=cell_of eQ 3 (v:=.nilIface) rfl;have f3:=ay eQ 3;have lQ:=sP eQ (σ ty uy);have q0:=cell_of lQ 0 (v:=I O (k:Nat)) rfl;have q1:=cell_of lQ 1 (v:=I O bj.2) rfl;have q2:=cell_of lQ 2 (v:=σ tt uu) rfl;have q3:=cell_of lQ 3 (v:=σ ty uy) rfl;have h6:Rd b s m1 m2 l2 o vk (w4.setCell ⟨w2.heap.size,3,M⟩ (σ ty uy)):=h4.eG (p:=⟨w2.heap.size,3,M⟩) (by show w2.heap.size≠b;omega) (mf eQ É) _;have x6:Ext b w (w4.setCell ⟨w2.heap.size,3,M⟩ (σ ty uy)):=(X4.1.trans x4).setCell (p:=⟨w2.heap.size,3,M⟩) (.inr fH) _;have cP:iA b s (w4.setCell ⟨w2.heap.size,3,M⟩ (σ ty uy))<iA b s wr:=by rw[h6.rest,dq.1.rest];omega
       have zQ:=hid cP;have HS:Hid (Rd b s m1 m2 l2 o vk (w4.setCell ⟨w2.heap.size,3,M⟩ (σ ty uy))/\Env b m1 m2 (w4.setCell ⟨w2.heap.size,3,M⟩ (σ ty uy))/\Ext b w (w4.setCell ⟨w2.heap.size,3,M⟩ (σ ty uy))):=⟨h6,hE.ext x6,x6⟩;clear tS BS DB eQ lQ h6 x6 cP x4 h4;go_wp2_with fail;exact⟨⟨_,_,_,_,_,_,rfl,HB,re,HS⟩,zQ.out⟩
     .rw[show decide (3<=k)=false from decide_eq_false im]
      go_wp2_with fail;generalize w2.alloc (L #[I O (k:Nat),I O 0,σ tt uu,.nilIface] 355)=w5 at*;have Xj:=hid XL.out;have X4:Hid (Ext b w w5/\Env b m1 m2 w5):=⟨X3.1,hE.ext X3.1⟩;have DB:=hu.out (Sp.next l') _ w5 (by have:=lR.2.1;omega) H2.out X4.2;refine DB.mono ?_;intro e w4 AJ;cases tS:u (Sp.next l') with
      |error er=>
       rw[tS]at AJ;have aW:bS A 1 u l=.error er:=by
        rw[lR.2.2];cases m with
        |zero=>exact absurd lR.1 À
        |succ m=>unfold bK;rw[HO.out];simp only;rw[Á Je.out,tS]
       obtain⟨N,rfl,hf⟩:=AJ;refine⟨rfl,?_⟩;rw[aW];exact bJ.ahead X4.1 ⟨N,rfl,hf⟩
      |ok yl=>
       obtain⟨y,l2⟩:=yl;rw[tS]at AJ;obtain⟨vy,rfl,vk,BS,h4,x4⟩:=AJ;obtain⟨ty,uy,rfl⟩:=Rp.iface _ _ _ _ BS;have hd4:=da.out _ _ _ tS;have HB:Hid (Rp.S ct (σ 355 (J #[I O (k:Nat),I O 0,σ tt uu,σ ty uy])) (A.bin k x' y) vk):=Rp.bin ct k _ _ _ _ _ _ À Qn.out BS;have re:Hid (l2.length<m-1/\l2.length<n/\bS A 1 u l=bK A 1 u (m-1) (A.bin k x' y) l2):=by
        have:=lR.1;have:=lR.2.1;refine⟨À,À,?_⟩;rw[lR.2.2];cases m with
        |zero=>exact absurd lR.1 À
        |succ m=>
         have e:bK A 1 u (m+1) x' l'=bK A 1 u m (A.bin k x' y) l2:=by
          conv=>lhs;unfold bK
          rw[HO.out];simp only;rw[Á Je.out,tS]
         exact e
       have eQ:w4.heap[w2.heap.size]?=Y (L (fT k 0 (σ tt uu) .nilIface) 355):=by exact x4.bH Xj.out À (fK É)
       have k3:=cell_of eQ 3 (v:=.nilIface) rfl;have f3:=ay eQ 3;have lQ:=sP eQ (σ ty uy);have q0:=cell_of lQ 0 (v:=I O (k:Nat)) rfl;have q1:=cell_of lQ 1 (v:=I O 0) rfl;have q2:=cell_of lQ 2 (v:=σ tt uu) rfl;have q3:=cell_of lQ 3 (v:=σ ty uy) rfl;have h6:Rd b s m1 m2 l2 o vk (w4.setCell ⟨w2.heap.size,3,M⟩ (σ ty uy)):=h4.eG (p:=⟨w2.heap.size,3,M⟩) (by show w2.heap.size≠b;omega) (mf eQ É) _;have x6:Ext b w (w4.setCell ⟨w2.heap.size,3,M⟩ (σ ty uy)):=(X4.1.trans x4).setCell (p:=⟨w2.heap.size,3,M⟩) (.inr fH) _;have cP:iA b s (w4.setCell ⟨w2.heap.size,3,M⟩ (σ ty uy))<iA b s wr:=by rw[h6.rest,dq.1.rest];omega
       have zQ:=hid cP;have HS:Hid (Rd b s m1 m2 l2 o vk (w4.setCell ⟨w2.heap.size,3,M⟩ (σ ty uy))/\Env b m1 m2 (w4.setCell ⟨w2.heap.size,3,M⟩ (σ ty uy))/\Ext b w (w4.setCell ⟨w2.heap.size,3,M⟩ (σ ty uy))):=⟨h6,hE.ext x6,x6⟩;clear tS BS DB eQ lQ h6 x6 cP x4 h4;go_wp2_with fail;exact⟨⟨_,_,_,_,_,_,rfl,HB,re,HS⟩,zQ.out⟩
    .have Je:Hid (cT k=0):=by
      unfold Hid cT at*;split<;>simp_all
     have aW:Hid (bS A 1 u l=.ok (x',l')):=by
      unfold Hid;rw[lR.2.2];cases m with
      |zero=>rfl
      |succ m=>unfold bK;rw[HO.out];simp only;rw[Â MP]
     clear MP;go_wp2_with fail;go_quiet (fail);go_wp2_with fail;refine(jI k zN _).mono ?_;rintro e w2⟨rfl,rfl⟩;rw[Je.out];go_wp2_with fail;go_ret;rw[aW.out];exact⟨_,rfl,bj,Qn,dq.1.drewN _,dq.2.2.drewN _⟩
theorem Ar(Rp:nZ A)(b:Nat)(s:ByteArray)(m1 m2 o n:Nat)(u:Sp.Bs->Sp.R A.S)
  (da:Hid (∀l x l1,u l=.ok (x,l1)->l1.length<=l.length))
  (hu:Hid (∀l ct w,l.length<n->Rd b s m1 m2 l o ct w->Env b m1 m2 w->Calls prog 215 #[ρ (Y ⟨b,0,M⟩)] w (oZ Rp b s m1 m2 o ct w (u l))))
  (l:Sp.Bs) (ct:Int×Int) (w:Wd) (hl:l.length<n) (h:Rd b s m1 m2 l o ct w) (hE:Env b m1 m2 w):
  Calls prog 214 #[ρ (Y ⟨b,0,M⟩),I O 0,.func (Fn.func 215) #[ρ (Y ⟨b,0,M⟩)] #[]] w (oZ Rp b s m1 m2 o ct w (bS A 0 u l)):=by
 go_enter func214,ntmps214;go_wp2_with fail;refine(hu.out l ct _ hl h hE).mono ?_;intro e w1 hp;cases hr:u l with
 |error er=>rw[hr]at hp;obtain⟨N,rfl,hf⟩:=hp;refine⟨rfl,?_⟩;unfold bS;rw[hr];exact⟨N,rfl,hf⟩
 |ok xl=>
  obtain⟨x,l1⟩:=xl;rw[hr]at hp;obtain⟨v,rfl,ct1,hv,h1,x1⟩:=hp;obtain⟨tv,uv,rfl⟩:=Rp.iface _ _ _ _ hv;go_wp2_with fail
  go_loopw [7] (λt wr=>∃(tt:TypeId) (uu:Value) (x':A.S) (l':Sp.Bs) (m:Nat) (bj:Int×Int),t=σ tt uu/\Hid (Rp.S ct (σ tt uu) x' bj)/\Hid (l'.length<m/\l'.length<n/\bS A 0 u l=bK A 0 u m x' l')/\Hid (Rd b s m1 m2 l' o bj wr/\Env b m1 m2 wr/\Ext b w wr)) (λ_ wr=>iA b s wr)
  case atStart=> 
   refine⟨tv,uv,x,l1,l1.length+1,ct1,rfl,hv,⟨Nat.lt_succ_self _,?_,?_⟩,h1,hE.ext x1,x1⟩
   .have:=da.out l x l1 hr
    omega
   .unfold bS
    rw[hr]
  case round=>
   obtain⟨tt,uu,x',l',m,bj,rfl,Qn,lR,dq⟩:=hrel;have c3:=dq.1.c3;have c7:=dq.1.c7;cases ho:eA (Sp.tok l') with
   |none=>
    have Kn:=rC dq.2.1.ops (Sp.tok l') dq.1.jE ho;have HO:=hid ho;clear ho;have aW:Hid (bS A 0 u l=.ok (x',l')):=by
     unfold Hid;rw[lR.2.2];cases m with
     |zero=>rfl
     |succ m=>unfold bK;rw[HO.out]
    clear HO;go_wp2_with fail;go_quiet (fail);go_wp2_with fail;go_ret;rw[aW.out];exact⟨_,rfl,bj,Qn,dq.1.drewN _,dq.2.2.drewN _⟩
   |some k=>
    have Kn:=ry dq.2.1.ops (Sp.tok l') dq.1.jE ho;have zN:k<5:=sO ho;have HO:=hid ho;clear ho;by_cases MP:cT k=0
    .have Je:=hid MP
     clear MP;go_wp2_with fail;go_quiet (fail);go_wp2_with fail;refine(jI k zN _).mono ?_;rintro e w2⟨rfl,rfl⟩;rw[Je.out];go_wp2_with fail;refine(iv (dq.1.drewN _) (zG HO.out)).mono ?_;rintro e w2⟨rfl,h2,x2⟩;have H2:Hid (Rd b s m1 m2 (Sp.next l') o bj (w2.alloc (L #[I O (k:Nat),I O 0,σ tt uu,.nilIface] 355))):=h2.ext _;have abe:=h2.lt;have df:=fZ HO.out;have X3:Hid (Ext b w (w2.alloc (L #[I O (k:Nat),I O 0,σ tt uu,.nilIface] 355))/\Ext b wr (w2.alloc (L #[I O (k:Nat),I O 0,σ tt uu,.nilIface] 355))):=⟨(dq.2.2.trans x2.jd).alloc _,x2.jd.alloc _⟩;have XL:Hid ((w2.alloc (L #[I O (k:Nat),I O 0,σ tt uu,.nilIface] 355)).heap[w2.heap.size]?=Y (L (fT k 0 (σ tt uu) .nilIface) 355)):=heap_alloc_new _ _;have fH:w.heap.size<=w2.heap.size:=(dq.2.2.trans x2.jd).size;go_wp2_with fail;refine(rl k zN _).mono ?_;rintro e w2'⟨rfl,rfl⟩;by_cases im:3<=k
     .rw[show decide (3<=k)=true from decide_eq_true im]
      go_wp2_with fail;generalize w2.alloc (L #[I O (k:Nat),I O 0,σ tt uu,.nilIface] 355)=wn at*;refine(gG H2.out).mono ?_;rintro e w3⟨rfl,h3,x3⟩;have eQ:w3.heap[w2.heap.size]?=Y (L (fT k 0 (σ tt uu) .nilIface) 355):=by exact x3.bH XL.out À (fK É)
      have k1:=cell_of eQ 1 (v:=I O 0) rfl;have f1:=ay eQ 1;have Qt:=Fc eQ bj.2;have H3:Hid (Rd b s m1 m2 (Sp.next l') o (bj.1,RowKit.wrap64 (bj.2+1)) (w3.setCell ⟨w2.heap.size,1,M⟩ (I O bj.2))):=h3.eG (p:=⟨w2.heap.size,1,M⟩) (by show w2.heap.size≠b;omega) (mf eQ É) _;have X4:Hid (Ext b w (w3.setCell ⟨w2.heap.size,1,M⟩ (I O bj.2))/\Env b m1 m2 (w3.setCell ⟨w2.heap.size,1,M⟩ (I O bj.2))):=by have e:=(X3.1.trans x3).setCell (p:=⟨w2.heap.size,1,M⟩) (.inr fH) (I O bj.2);exact⟨e,hE.ext e⟩
      have Xj:=hid Qt;clear Qt eQ;go_wp2_with fail;clear k1 f1;generalize w3.setCell ⟨w2.heap.size,1,M⟩ (I O bj.2)=w5 at*;have DB:=hu.out (Sp.next l') _ w5 (by have:=lR.2.1;omega) H3.out X4.2;refine DB.mono ?_;intro e w4 AJ;cases tS:u (Sp.next l') with
      |error er=>
       rw[tS]at AJ;have aW:bS A 0 u l=.error er:=by
        rw[lR.2.2];cases m with
        |zero=>exact absurd lR.1 À
        |succ m=>unfold bK;rw[HO.out];simp only;rw[Á Je.out,tS]
       obtain⟨N,rfl,hf⟩:=AJ;refine⟨rfl,?_⟩;rw[aW];exact bJ.ahead X4.1 ⟨N,rfl,hf⟩
      |ok yl=>
       obtain⟨y,l2⟩:=yl;rw[tS]at AJ;obtain⟨vy,rfl,vk,BS,h4,x4⟩:=AJ;obtain⟨ty,uy,rfl⟩:=Rp.iface _ _ _ _ BS;have hd4:=da.out _ _ _ tS;have HB:Hid (Rp.S ct (σ 355 (J #[I O (k:Nat),I O bj.2,σ tt uu,σ ty uy])) (A.bin k x' y) vk):=Rp.binSite ct k _ _ _ _ _ _ im zN Qn.out BS;have re:Hid (l2.length<m-1/\l2.length<n/\bS A 0 u l=bK A 0 u (m-1) (A.bin k x' y) l2):=by
        have:=lR.1;have:=lR.2.1;refine⟨À,À,?_⟩;rw[lR.2.2];cases m with
        |zero=>exact absurd lR.1 À
        |succ m=>
         have e:bK A 0 u (m+1) x' l'=bK A 0 u m (A.bin k x' y) l2:=by
          conv=>lhs;unfold bK
          rw[HO.out];simp only;rw[Á Je.out,tS]
         exact e
       have eQ:w4.heap[w2.heap.size]?=Y (L (fT k bj.2 (σ tt uu) .nilIface) 355):=by exact x4.bH Xj.out À (fK É)
       have k3:=cell_of eQ 3 (v:=.nilIface) rfl;have f3:=ay eQ 3;have lQ:=sP eQ (σ ty uy);have q0:=cell_of lQ 0 (v:=I O (k:Nat)) rfl;have q1:=cell_of lQ 1 (v:=I O bj.2) rfl;have q2:=cell_of lQ 2 (v:=σ tt uu) rfl;have q3:=cell_of lQ 3 (v:=σ ty uy) rfl;have h6:Rd b s m1 m2 l2 o vk (w4.setCell ⟨w2.heap.size,3,M⟩ (σ ty uy)):=h4.eG (p:=⟨w2.heap.size,3,M⟩) (by show w2.heap.size≠b;omega) (mf eQ É) _;have x6:Ext b w (w4.setCell ⟨w2.heap.size,3,M⟩ (σ ty uy)):=(X4.1.trans x4).setCell (p:=⟨w2.heap.size,3,M⟩) (.inr fH) _;have cP:iA b s (w4.setCell ⟨w2.heap.size,3,M⟩ (σ ty uy))<iA b s wr:=by rw[h6.rest,dq.1.rest];omega
       have zQ:=hid cP;have HS:Hid (Rd b s m1 m2 l2 o vk (w4.setCell ⟨w2.heap.size,3,M⟩ (σ ty uy))/\Env b m1 m2 (w4.setCell ⟨w2.heap.size,3,M⟩ (σ ty uy))/\Ext b w (w4.setCell ⟨w2.heap.size,3,M⟩ (σ ty uy))):=⟨h6,hE.ext x6,x6⟩;clear tS BS DB eQ lQ h6 x6 cP x4 h4;go_wp2_with fail;exact⟨⟨_,_,_,_,_,_,rfl,HB,re,HS⟩,zQ.out⟩
     .rw[show decide (3<=k)=false from decide_eq_false im]
      go_wp2_with fail;generalize w2.alloc (L #[I O (k:Nat),I O 0,σ tt uu,.nilIface] 355)=w5 at*;have Xj:=hid XL.out;have X4:Hid (Ext b w w5/\Env b m1 m2 w5):=⟨X3.1,hE.ext X3.1⟩;have DB:=hu.out (Sp.next l') _ w5 (by have:=lR.2.1;omega) H2.out X4.2;refine DB.mono ?_;intro e w4 AJ;cases tS:u (Sp.next l') with
      |error er=>
       rw[tS]at AJ;have aW:bS A 0 u l=.error er:=by
        rw[lR.2.2];cases m with
        |zero=>exact absurd lR.1 À
        |succ m=>unfold bK;rw[HO.out];simp only;rw[Á Je.out,tS]
       obtain⟨N,rfl,hf⟩:=AJ;refine⟨rfl,?_⟩;rw[aW];exact bJ.ahead X4.1 ⟨N,rfl,hf⟩
      |ok yl=>
       obtain⟨y,l2⟩:=yl;rw[tS]at AJ;obtain⟨vy,rfl,vk,BS,h4,x4⟩:=AJ;obtain⟨ty,uy,rfl⟩:=Rp.iface _ _ _ _ BS;have hd4:=da.out _ _ _ tS;have HB:Hid (Rp.S ct (σ 355 (J #[I O (k:Nat),I O 0,σ tt uu,σ ty uy])) (A.bin k x' y) vk):=Rp.bin ct k _ _ _ _ _ _ À Qn.out BS;have re:Hid (l2.length<m-1/\l2.length<n/\bS A 0 u l=bK A 0 u (m-1) (A.bin k x' y) l2):=by
        have:=lR.1;have:=lR.2.1;refine⟨À,À,?_⟩;rw[lR.2.2];cases m with
        |zero=>exact absurd lR.1 À
        |succ m=>
         have e:bK A 0 u (m+1) x' l'=bK A 0 u m (A.bin k x' y) l2:=by
          conv=>lhs;unfold bK
          rw[HO.out];simp only;rw[Á Je.out,tS]
         exact e
       have eQ:w4.heap[w2.heap.size]?=Y (L (fT k 0 (σ tt uu) .nilIface) 355):=by exact x4.bH Xj.out À (fK É)
       have k3:=cell_of eQ 3 (v:=.nilIface) rfl;have f3:=ay eQ 3;have lQ:=sP eQ (σ ty uy);have q0:=cell_of lQ 0 (v:=I O (k:Nat)) rfl;have q1:=cell_of lQ 1 (v:=I O 0) rfl;have q2:=cell_of lQ 2 (v:=σ tt uu) rfl;have q3:=cell_of lQ 3 (v:=σ ty uy) rfl;have h6:Rd b s m1 m2 l2 o vk (w4.setCell ⟨w2.heap.size,3,M⟩ (σ ty uy)):=h4.eG (p:=⟨w2.heap.size,3,M⟩) (by show w2.heap.size≠b;omega) (mf eQ É) _;have x6:Ext b w (w4.setCell ⟨w2.heap.size,3,M⟩ (σ ty uy)):=(X4.1.trans x4).setCell (p:=⟨w2.heap.size,3,M⟩) (.inr fH) _;have cP:iA b s (w4.setCell ⟨w2.heap.size,3,M⟩ (σ ty uy))<iA b s wr:=by rw[h6.rest,dq.1.rest];omega
       have zQ:=hid cP;have HS:Hid (Rd b s m1 m2 l2 o vk (w4.setCell ⟨w2.heap.size,3,M⟩ (σ ty uy))/\Env b m1 m2 (w4.setCell ⟨w2.heap.size,3,M⟩ (σ ty uy))/\Ext b w (w4.setCell ⟨w2.heap.size,3,M⟩ (σ ty uy))):=⟨h6,hE.ext x6,x6⟩;clear tS BS DB eQ lQ h6 x6 cP x4 h4;go_wp2_with fail;exact⟨⟨_,_,_,_,_,_,rfl,HB,re,HS⟩,zQ.out⟩
    .have Je:Hid (cT k=1):=by
      unfold Hid cT at*;split<;>simp_all
     have aW:Hid (bS A 0 u l=.ok (x',l')):=by
      unfold Hid;rw[lR.2.2];cases m with
      |zero=>rfl
      |succ m=>unfold bK;rw[HO.out];simp only;rw[Â MP]
     clear MP;go_wp2_with fail;go_quiet (fail);go_wp2_with fail;refine(jI k zN _).mono ?_;rintro e w2⟨rfl,rfl⟩;rw[Je.out];go_wp2_with fail;go_ret;rw[aW.out];exact⟨_,rfl,bj,Qn,dq.1.drewN _,dq.2.2.drewN _⟩
def Reads(Rp:nZ A)(f:Nat)(b:Nat)(s:ByteArray)(m1 m2 o n:Nat)(u:Sp.Bs->Sp.R A.S):Prop:=
 ∀l ct w,l.length<n->Rd b s m1 m2 l o ct w->Env b m1 m2 w->Calls prog f #[ρ (Y ⟨b,0,M⟩)] w (oZ Rp b s m1 m2 o ct w (u l))
theorem Al(Rp:nZ A)(b:Nat)(s:ByteArray)(m1 m2 o n:Nat)(u:Sp.Bs->Sp.R A.S)(da:∀l x l1,u l=.ok (x,l1)->l1.length<=l.length)
  (hu:Reads Rp 227 b s m1 m2 o n u):Reads Rp 215 b s m1 m2 o n (pR A u):=by
 intro l ct w hl h hE;have hc:Calls prog 214 #[ρ (Y ⟨b,0,M⟩),I O 1,.func (Fn.func 227) #[ρ (Y ⟨b,0,M⟩)] #[]] w (oZ Rp b s m1 m2 o ct w (pR A u l)):=D7 Rp b s m1 m2 o n u da hu l ct w hl h hE;clear da hu;generalize pR A u l=r at hc⊢;cases r with
 |error er=>go_enter func215,ntmps215;go_wp2_with fail;refine hc.mono ?_;rintro e w1⟨N,rfl,hf⟩;exact⟨rfl,N,rfl,hf⟩
 |ok xl=>obtain⟨x,l1⟩:=xl;go_enter func215,ntmps215;go_wp2_with fail;refine hc.mono ?_;rintro e w1⟨v,rfl,ct1,hv,h1,x1⟩;go_wp2_with fail;go_ret;exact⟨v,rfl,ct1,hv,h1,x1⟩
theorem Bh(Rp:nZ A)(b:Nat)(s:ByteArray)(m1 m2 o n:Nat)(u:Sp.Bs->Sp.R A.S)(da:∀l x l1,u l=.ok (x,l1)->l1.length<=l.length)
  (hu:Reads Rp 227 b s m1 m2 o n u):Reads Rp 189 b s m1 m2 o n (oI A u):=by
 intro l ct w hl h hE;have hc:Calls prog 214 #[ρ (Y ⟨b,0,M⟩),I O 0,.func (Fn.func 215) #[ρ (Y ⟨b,0,M⟩)] #[]] w (oZ Rp b s m1 m2 o ct w (oI A u l)):=Ar Rp b s m1 m2 o n (pR A u) (vg da) (Al Rp b s m1 m2 o n u da hu) l ct w hl h hE;clear da hu;generalize oI A u l=r at hc⊢;cases r with
 |error er=>go_enter func189,ntmps189;go_wp2_with fail;refine hc.mono ?_;rintro e w1⟨N,rfl,hf⟩;exact⟨rfl,N,rfl,hf⟩
 |ok xl=>obtain⟨x,l1⟩:=xl;go_enter func189,ntmps189;go_wp2_with fail;refine hc.mono ?_;rintro e w1⟨v,rfl,ct1,hv,h1,x1⟩;go_wp2_with fail;go_ret;exact⟨v,rfl,ct1,hv,h1,x1⟩
theorem nA(Rp:nZ A){r:Sp.R A.S}{e:Ending}(hr:r=.error er)(h:bJ s b w er e w'):oZ Rp b s m1 m2 o ct w r e w':=by rw[hr];exact h
theorem Bd(Rp:nZ A){r:Sp.R A.S}{x:A.S}(hr:r=.ok (x,l'))(hv:Rp.S ct v x bj)(h:Rd b s m1 m2 l' o bj w')(hx:Ext b w w'):oZ Rp b s m1 m2 o ct w r (υ v) w':=by rw[hr];exact⟨v,rfl,bj,hv,h,hx⟩
def lP(A:fE)(u:Sp.Bs->Sp.R A.S)(o:Nat)(l:Sp.Bs):Sp.R A.S:=match Sp.enter [45] o l with
 |.ok l1=>(match u l1 with
  |.ok (x,l2)=>.ok (A.neg x,l2)
  |.error e=>.error e)
 |.error e=>.error e
theorem lG(Rp:nZ A)(b:Nat)(s:ByteArray)(m1 m2 o n:Nat)(u:Sp.Bs->Sp.R A.S)
  (hu:o<12->Reads Rp 227 b s m1 m2 (o+1) n u) (l:Sp.Bs) (ct:Int×Int) (w:Wd) (hl:l.length<n+1) (h:Rd b s m1 m2 l o ct w) (hE:Env b m1 m2 w) (ho:o<=12) (ht:Sp.tok l=[45]):
  Calls prog 233 #[ρ (Y ⟨b,0,M⟩)] w (oZ Rp b s m1 m2 o ct w (lP A u o l)):=by
 by_cases ud:o=12
 .subst ud
  have hr:Hid (lP A u 12 l=.error (3,l.length)):=by unfold Hid lP Sp.enter;rw[Á ht,Á rfl];rfl
  go_enter func233,ntmps233;go_wp2_with fail;refine(so h [45] ht).mono ?_;rintro e w1⟨N,rfl,hf⟩;exact⟨rfl,nA Rp hr.out ⟨N,rfl,hf⟩⟩
 .have Q8:Sp.enter [45] o l=.ok (Sp.next l):=by unfold Sp.enter;rw[Á ht,Â ud]
  have WI:=aJ ht Ä;cases hr:u (Sp.next l) with
  |error er=>
   have aW:Hid (lP A u o l=.error er):=by unfold Hid lP;rw[Q8];simp only;rw[hr]
   go_enter func233,ntmps233;go_wp2_with fail;refine(jP h À [45] ht).mono ?_;rintro e w1⟨rfl,h1,x1⟩;go_wp2_with fail;refine(hu À (Sp.next l) ct w1 À h1 (hE.ext x1)).mono ?_;intro e w2 hp;rw[hr]at hp;obtain⟨N,rfl,hf⟩:=hp;exact⟨rfl,nA Rp aW.out (bJ.ahead x1 ⟨N,rfl,hf⟩)⟩
  |ok xl=>
   obtain⟨x,l2⟩:=xl;have aW:Hid (lP A u o l=.ok (A.neg x,l2)):=by unfold Hid lP;rw[Q8];simp only;rw[hr]
   go_enter func233,ntmps233;go_wp2_with fail;refine(jP h À [45] ht).mono ?_;rintro e w1⟨rfl,h1,x1⟩;go_wp2_with fail;refine(hu À (Sp.next l) ct w1 À h1 (hE.ext x1)).mono ?_;intro e w2 hp;rw[hr]at hp;obtain⟨v,rfl,ct1,hv,h2,x2⟩:=hp;obtain⟨tv,uv,rfl⟩:=Rp.iface _ _ _ _ hv;have c4:w2.cell? ⟨b,4,M⟩=Y (I O ((o:Int)+1)):=h2.c4;have f4:=h2.fz 4;have DH:=xO h2 o (o:Int) rfl;have HS:=hid DH;have hn:=Rp.neg _ _ _ _ hv;have HN:=hid hn;clear DH hn hr;go_wp2_with fail;go_ret;exact Bd Rp aW.out HN HS.1 ((x1.trans x2).trans HS.2)
def cp(A:fE)(q:Sp.Bs->Sp.R A.S)(o:Nat)(l:Sp.Bs):Sp.R A.S:=match Sp.enter [40] o l with
 |.ok l1=>(match q l1 with
  |.ok (x,l2)=>(match Sp.take [41] l2 with
   |.ok l3=>.ok (x,l3)
   |.error e=>.error e)
  |.error e=>.error e)
 |.error e=>.error e
theorem wQ(Rp:nZ A)(b:Nat)(s:ByteArray)(m1 m2 o n:Nat)(q:Sp.Bs->Sp.R A.S)
  (hu:o<12->Reads Rp 189 b s m1 m2 (o+1) n q) (l:Sp.Bs) (ct:Int×Int) (w:Wd) (hl:l.length<n+1) (h:Rd b s m1 m2 l o ct w) (hE:Env b m1 m2 w) (ho:o<=12):
  Calls prog 234 #[ρ (Y ⟨b,0,M⟩)] w (oZ Rp b s m1 m2 o ct w (cp A q o l)):=by
 by_cases ht:Sp.tok l=[40]
 .by_cases ud:o=12
  .subst ud
   have hr:Hid (cp A q 12 l=.error (3,l.length)):=by unfold Hid cp Sp.enter;rw[Á ht,Á rfl];rfl
   go_enter func234,ntmps234;go_wp2_with fail;refine(so h [40] ht).mono ?_;rintro e w1⟨N,rfl,hf⟩;exact⟨rfl,nA Rp hr.out ⟨N,rfl,hf⟩⟩
  .have Q8:Sp.enter [40] o l=.ok (Sp.next l):=by unfold Sp.enter;rw[Á ht,Â ud]
   have WI:=aJ ht Ä;cases hr:q (Sp.next l) with
   |error er=>
    have aW:Hid (cp A q o l=.error er):=by unfold Hid cp;rw[Q8];simp only;rw[hr]
    go_enter func234,ntmps234;go_wp2_with fail;refine(jP h À [40] ht).mono ?_;rintro e w1⟨rfl,h1,x1⟩;go_wp2_with fail;refine(hu À (Sp.next l) ct w1 À h1 (hE.ext x1)).mono ?_;intro e w2 hp;rw[hr]at hp;obtain⟨N,rfl,hf⟩:=hp;exact⟨rfl,nA Rp aW.out (bJ.ahead x1 ⟨N,rfl,hf⟩)⟩
   |ok xl=>
    obtain⟨x,l2⟩:=xl;by_cases DH:Sp.tok l2=[41]
    .have aW:Hid (cp A q o l=.ok (x,Sp.next l2)):=by unfold Hid cp;rw[Q8];simp only;rw[hr];simp only;unfold Sp.take;rw[Á DH]
     go_enter func234,ntmps234;go_wp2_with fail;refine(jP h À [40] ht).mono ?_;rintro e w1⟨rfl,h1,x1⟩;go_wp2_with fail;refine(hu À (Sp.next l) ct w1 À h1 (hE.ext x1)).mono ?_;intro e w2 hp;rw[hr]at hp;obtain⟨v,rfl,ct1,hv,h2,x2⟩:=hp;have HV:=hid hv;clear hv hr;go_wp2_with fail;refine(dH h2 [41] DH).mono ?_;rintro e w3⟨rfl,h3,x3⟩;have c4:w3.cell? ⟨b,4,M⟩=Y (I O ((o:Int)+1)):=h3.c4;have f4:=h3.fz 4;have DH:=xO h3 o (o:Int) rfl;have HS:=hid DH;clear DH;go_wp2_with fail;go_ret;exact Bd Rp aW.out HV HS.1 (((x1.trans x2).trans x3).trans HS.2)
    .have aW:Hid (cp A q o l=.error (2,l2.length)):=by unfold Hid cp;rw[Q8];simp only;rw[hr];simp only;unfold Sp.take;rw[Â DH];rfl
     go_enter func234,ntmps234;go_wp2_with fail;refine(jP h À [40] ht).mono ?_;rintro e w1⟨rfl,h1,x1⟩;go_wp2_with fail;refine(hu À (Sp.next l) ct w1 À h1 (hE.ext x1)).mono ?_;intro e w2 hp;rw[hr]at hp;obtain⟨v,rfl,ct1,hv,h2,x2⟩:=hp;clear hv hr;go_wp2_with fail;refine(nG h2 [41] DH).mono ?_;rintro e w3⟨N,rfl,hf⟩;exact⟨rfl,nA Rp aW.out (bJ.ahead (x1.trans x2) ⟨N,rfl,hf⟩)⟩
 .have hr:Hid (cp A q o l=.error (2,l.length)):=by
   unfold Hid cp Sp.enter;rw[Â ht];rfl
  go_enter func234,ntmps234;go_wp2_with fail;refine(BF h [40] ht).mono ?_;rintro e w1⟨N,rfl,hf⟩;exact⟨rfl,nA Rp hr.out ⟨N,rfl,hf⟩⟩
theorem gu(A:fE)(n o:Nat)(l:Sp.Bs):bp A (n+1) o l =
  if aC l=3 then(match gh (Sp.tok l) with
   |some v=>.ok (A.num v,Sp.next l)
   |none=>Sp.bad 2 l)
  else if aC l=2 then(match dN l with
   |.ok (k,l1)=>.ok (A.name k,l1)
   |.error e=>.error e)
  else if Sp.tok l=[45] then lP A (bp A n (o+1)) o l
  else cp A (oI A (bp A n (o+1))) o l:=rfl
theorem lL(h:aS l=M):dN l=.error (2,l.length):=by unfold dN;rw[h];rfl
theorem jC(h:aS l=Y k):dN l=.ok (k,Sp.next l):=by unfold dN;rw[h]
theorem Hd(Rp:nZ A)(b:Nat)(s:ByteArray)(m1 m2 o n:Nat)(ho:o<=12)
  (ih:o<12->Reads Rp 227 b s m1 m2 (o+1) n (bp A n (o+1))):Reads Rp 227 b s m1 m2 o (n+1) (bp A (n+1) o):=by
 intro l ct w hl h hE;rw[gu];have c2:=h.c2;by_cases h3:aC l=3
 .rw[Á h3]
  have c2':w.cell? ⟨b,2,M⟩=Y (I O 3):=by rw[c2,h3];rfl
  clear c2;cases hv:gh (Sp.tok l) with
  |none=>go_enter func227,ntmps227;go_wp2_with fail;refine(GV h hE.laid h3 hv).mono ?_;rintro e w1⟨N,rfl,hf⟩;exact⟨rfl,N,rfl,hf⟩
  |some v=>
   have hle:v<=32767:=by have:=qd hv;omega
   go_enter func227,ntmps227;go_wp2_with fail;refine(KP h h3 hv).mono ?_;rintro e w1⟨rfl,h1,x1⟩;go_wp2_with fail;go_ret;exact⟨_,rfl,ct,Rp.num ct v hle,h1,x1⟩
 .rw[Â h3]
  have n3:¬(((aC l:Nat):Int)=3):=À;have b3:(((aC l:Nat):Int)==3)=false:=by simpa using n3
  by_cases h2:aC l=2
  .rw[Á h2]
   have c2':w.cell? ⟨b,2,M⟩=Y (I O 2):=by rw[c2,h2];rfl
   clear c2 n3 b3 h3;cases hv:aS l with
   |none=>rw[lL hv];go_enter func227,ntmps227;go_wp2_with fail;refine(yM h hv).mono ?_;rintro e w1⟨N,rfl,hf⟩;exact⟨rfl,N,rfl,hf⟩
   |some k=>
    rw[jC hv];have hk:k<8:=by obtain⟨c,_,_,h1,h2,rfl⟩:=dY hv;omega
    go_enter func227,ntmps227;go_wp2_with fail;refine(nT h hv).mono ?_;rintro e w1⟨rfl,h1,x1⟩;go_wp2_with fail;go_ret;exact⟨_,rfl,ct,Rp.name ct k hk,h1,x1⟩
  .rw[Â h2]
   have n2:¬(((aC l:Nat):Int)=2):=À;have b2:(((aC l:Nat):Int)==2)=false:=by simpa using n2
   have c3:=h.c3;by_cases ht:Sp.tok l=[45]
   .rw[Á ht]
    have Ze:w.cell? ⟨b,3,M⟩=Y (χ ⟨#[45]⟩):=by rw[c3,ht]
    have hc:=lG Rp b s m1 m2 o n (bp A n (o+1)) ih l ct w hl h hE ho ht;clear c3 ht ih h2 h3;generalize lP A (bp A n (o+1)) o l=r at hc⊢;generalize aC l=kd at*;cases r with
    |error er=>go_enter func227,ntmps227;go_wp2_with fail;refine hc.mono ?_;rintro e w1⟨N,rfl,hf⟩;exact⟨rfl,N,rfl,hf⟩
    |ok xl=>obtain⟨x,l1⟩:=xl;go_enter func227,ntmps227;go_wp2_with fail;refine hc.mono ?_;rintro e w1⟨v,rfl,ct1,hv,h1,x1⟩;go_wp2_with fail;go_ret;exact⟨v,rfl,ct1,hv,h1,x1⟩
   .rw[Â ht]
    have hb:=iz ht;have hc:=wQ Rp b s m1 m2 o n (oI A (bp A n (o+1))) (λud=>Bh Rp b s m1 m2 (o+1) n _ (λl x l1 h=>Nat.le_of_lt (jz n (o+1) l x l1 h)) (ih ud)) l ct w hl h hE ho;clear ih h2 h3 ht;generalize cp A (oI A (bp A n (o+1))) o l=r at hc⊢;generalize aC l=kd at*;cases r with
    |error er=>go_enter func227,ntmps227;go_wp2_with fail;refine hc.mono ?_;rintro e w1⟨N,rfl,hf⟩;exact⟨rfl,N,rfl,hf⟩
    |ok xl=>obtain⟨x,l1⟩:=xl;go_enter func227,ntmps227;go_wp2_with fail;refine hc.mono ?_;rintro e w1⟨v,rfl,ct1,hv,h1,x1⟩;go_wp2_with fail;go_ret;exact⟨v,rfl,ct1,hv,h1,x1⟩
theorem vP(Rp:nZ A)(b:Nat)(s:ByteArray)(m1 m2:Nat):∀(n o:Nat),o<=12->Reads Rp 227 b s m1 m2 o n (bp A n o)
 |0,_,_=>λl _ _ hl _ _=>absurd hl (Nat.not_lt_zero _)
 |n+1,o,ho=>Hd Rp b s m1 m2 o n ho (λh=>vP Rp b s m1 m2 n (o+1) À)
theorem gQ(Rp:nZ A)(b:Nat)(s:ByteArray)(m1 m2 o:Nat)(ho:o<=12)(l:Sp.Bs)(ct:Int × Int)(w:Wd)(h:Rd b s m1 m2 l o ct w)(hE:Env b m1 m2 w) :
  Calls prog 189 #[ρ (Y ⟨b,0,M⟩)] w (oZ Rp b s m1 m2 o ct w (Sp.pS A o l)):=
 Bh Rp b s m1 m2 o (l.length+1) _ (λl' x l1 h=>Nat.le_of_lt (jz (l.length+1) o l' x l1 h)) (vP Rp b s m1 m2 (l.length+1) o ho) l ct w (Nat.lt_succ_self _) h hE
theorem vu(h:eg (Sp.tok l)=Y k):aC l≠3:=by
 intro h3;obtain⟨db,hd⟩:=dA h3
 revert h db hd
 generalize Sp.tok l=t;intro h db hd;cases t with
 |nil=>exact db rfl
 |cons c r=>
  have hc:=hd c Ä;unfold bC at hc;simp at hc;unfold eg at h
  repeat' split at h
  all_goals first
   |(rename_i e;injection e with e1 _;subst e1;revert hc;decide)
   |cases h
def nj(V:Int×Int->Wd->Value->α->Int×Int->Prop)(b:Nat)(s:ByteArray)(m1 m2 o:Nat)(ct:Int×Int)(w:Wd):Sp.R α->Ending->Wd->Prop
 |.ok (x,l'),e,w'=>∃v,e=υ v/\∃bj,V ct w' v x bj/\Rd b s m1 m2 l' o bj w'/\Ext b w w'
 |.error er,e,w'=>bJ s b w er e w'
theorem bZ{V:Int×Int->Wd->Value->α->Int×Int->Prop}{r:Sp.R α}{e:Ending}(hr:r=.error er)(h:bJ s b w er e w'):nj V b s m1 m2 o ct w r e w':=by rw[hr];exact h
theorem fP{V:Int×Int->Wd->Value->α->Int×Int->Prop}{r:Sp.R α}{x:α}(hr:r=.ok (x,l'))(hv:V ct w' v x bj)(h:Rd b s m1 m2 l' o bj w')(hx:Ext b w w'):nj V b s m1 m2 o ct w r (υ v) w':=by rw[hr];exact⟨v,rfl,bj,hv,h,hx⟩
def Y0(Rp:nZ A)(ct:Int×Int)(_w:Wd)(v:Value)(c:Nat×A.S×A.S)(ct2:Int×Int):Prop:=
 ∃tl ul tr ur ct1,v=J #[I O (c.1:Nat),σ tl ul,σ tr ur]/\c.1<6/\Rp.S ct (σ tl ul) c.2.1 ct1/\Rp.S ct1 (σ tr ur) c.2.2 ct2
theorem yj(h:iu m w)(t:Sp.Bs)(ht:t.length<=400)(ho:eg t=M)(k:Nat) :
  (Instr.lookup 140 (.map (Y m)) (χ ⟨t.toArray⟩) true).run prog (w.drewN k)=.ok (φ #[I O 0,U false]) (w.drewN k):=by
 rw[A6 (h.drewN k) t ht,ho];rfl
theorem pX(h:iu m w)(t:Sp.Bs)(ht:t.length<=400)(ho:eg t=Y j)(k:Nat) :
  (Instr.lookup 140 (.map (Y m)) (χ ⟨t.toArray⟩) true).run prog (w.drewN k)=.ok (φ #[I O (j:Nat),U true]) (w.drewN k):=by
 rw[A6 (h.drewN k) t ht,ho];rfl
theorem zA{t:Sp.Bs}(h:eg t=Y k):k<6:=by
 unfold eg at h
 repeat' split at h
 all_goals first|(cases h;decide)|cases h
theorem ID{t:TypeId}(h:Bk w N #[a0,a1,a2] t)(v0 v1 v2:Value) :
  (((w.setCell ⟨N,0,M⟩ v0).setCell ⟨N,1,M⟩ v1).setCell ⟨N,2,M⟩ v2).heap[N]?=Y (L #[v0,v1,v2] t):=by
 rw[ai (ai (ai h 0 v0) 1 v1) 2 v2];rfl
theorem gz(Rp:nZ A)(b:Nat)(s:ByteArray)(m1 m2 o:Nat)(ho:o<=12)(l:Sp.Bs)(ct:Int × Int)(w:Wd)(h:Rd b s m1 m2 l o ct w)(hE:Env b m1 m2 w) :
  Calls prog 187 #[ρ (Y ⟨b,0,M⟩)] w (nj (Y0 Rp) b s m1 m2 o ct w (bo A o l)):=by
 have kL:Hid (Rd b s m1 m2 l o ct (w.alloc (L #[I O 0,.nilIface,.nilIface] 282))/\Env b m1 m2 (w.alloc (L #[I O 0,.nilIface,.nilIface] 282))/\Ext b w (w.alloc (L #[I O 0,.nilIface,.nilIface] 282))):=
  ⟨h.ext _,hE.ext ((Ext.refl b w).alloc _),(Ext.refl b w).alloc _⟩
 have df:=h.lt;cases hr:Sp.pS A o l with
 |error er=>
  have aW:Hid (bo A o l=.error er):=by unfold Hid bo;rw[hr]
  go_enter func187,ntmps187;go_wp2_with fail;refine(gQ Rp b s m1 m2 o ho l ct _ kL.1 kL.2.1).mono ?_;intro e w1 hp;rw[hr]at hp;obtain⟨N,rfl,hf⟩:=hp;exact⟨rfl,bZ aW.out (bJ.ahead kL.2.2 ⟨N,rfl,hf⟩)⟩
 |ok xl=>
  obtain⟨x,l1⟩:=xl;cases hq:eg (Sp.tok l1) with
  |none=>
   have aW:Hid (bo A o l=.error (2,l1.length)):=by unfold Hid bo;rw[hr];simp only;rw[hq];rfl
   go_enter func187,ntmps187;go_wp2_with fail;refine(gQ Rp b s m1 m2 o ho l ct _ kL.1 kL.2.1).mono ?_;intro e w1 hp;rw[hr]at hp;obtain⟨v,rfl,ct1,hv,h1,x1⟩:=hp;have c3:=h1.c3;have c8:=h1.c8;have XE:=kL.2.1.ext x1;have Kn:=yj XE.rels (Sp.tok l1) h1.jE hq;clear hr hq;go_wp2_with fail;go_quiet (fail);go_wp2_with fail;refine(eK (h1.drewN _) 2).mono ?_;rintro e w2⟨rfl,rfl⟩;go_wp2_with fail;exact⟨rfl,bZ aW.out (bJ.ahead ((kL.2.2.trans x1).drewN _) (gT (h1.drewN _) 2 2 rfl))⟩
  |some k=>
   have Kq:=zA hq;cases pD:Sp.pS A o (Sp.next l1) with
   |error er=>
    have aW:Hid (bo A o l=.error er):=by unfold Hid bo;rw[hr];simp only;rw[hq];simp only;rw[pD]
    go_enter func187,ntmps187;go_wp2_with fail;refine(gQ Rp b s m1 m2 o ho l ct _ kL.1 kL.2.1).mono ?_;intro e w1 hp;rw[hr]at hp;obtain⟨v,rfl,ct1,hv,h1,x1⟩:=hp;have c3:=h1.c3;have c8:=h1.c8;have XE:=kL.2.1.ext x1;have Kn:=pX XE.rels (Sp.tok l1) h1.jE hq;have HQ3:Hid (aC l1≠3):=vu hq;clear hr hq;go_wp2_with fail;go_quiet (fail);go_wp2_with fail;refine(iv (h1.drewN _) HQ3.out).mono ?_;rintro e w2⟨rfl,h2,x2⟩;go_wp2_with fail;refine(gQ Rp b s m1 m2 o ho (Sp.next l1) ct1 _ h2 (XE.ext x2.jd)).mono ?_;intro e w3 DB;rw[pD]at DB;obtain⟨N,rfl,hf⟩:=DB;exact⟨rfl,bZ aW.out (bJ.ahead ((kL.2.2.trans x1).trans x2.jd) ⟨N,rfl,hf⟩)⟩
   |ok yl=>
    obtain⟨y,l2⟩:=yl;have aW:Hid (bo A o l=.ok ((k,x,y),l2)):=by unfold Hid bo;rw[hr];simp only;rw[hq];simp only;rw[pD]
    go_enter func187,ntmps187;go_wp2_with fail;refine(gQ Rp b s m1 m2 o ho l ct _ kL.1 kL.2.1).mono ?_;intro e w1 hp;rw[hr]at hp;obtain⟨v,rfl,ct1,hv,h1,x1⟩:=hp;obtain⟨tl,ul,rfl⟩:=Rp.iface _ _ _ _ hv;have HV:=hid hv;have c3:=h1.c3;have c8:=h1.c8;have XE:=kL.2.1.ext x1;have Kn:=pX XE.rels (Sp.tok l1) h1.jE hq;have HQ3:Hid (aC l1≠3):=vu hq;clear hr hq hv;go_wp2_with fail;go_quiet (fail);go_wp2_with fail;refine(iv (h1.drewN _) HQ3.out).mono ?_;rintro e w2⟨rfl,h2,x2⟩;go_wp2_with fail;refine(gQ Rp b s m1 m2 o ho (Sp.next l1) ct1 _ h2 (XE.ext x2.jd)).mono ?_;intro e w3 DB;rw[pD]at DB;obtain⟨v3,rfl,ct2,hv3,h3,x3⟩:=DB;obtain⟨tr,ur,rfl⟩:=Rp.iface _ _ _ _ hv3;have HV3:=hid hv3;have eQ:=nC ((x1.trans x2.jd).trans x3) df;have k0:=cell_of eQ 0 (v:=I O 0) rfl;have k1:=cell_of eQ 1 (v:=.nilIface) rfl;have k2:=cell_of eQ 2 (v:=.nilIface) rfl;have f0:=ay eQ 0;have f1:=ay eQ 1;have f2:=ay eQ 2;clear pD hv3;have hW:=ID eQ (I O (k:Nat)) (σ tl ul) (σ tr ur);have q0:=cell_of hW 0 (v:=I O (k:Nat)) rfl;have q1:=cell_of hW 1 (v:=σ tl ul) rfl;have q2:=cell_of hW 2 (v:=σ tr ur) rfl;have HR:Hid (Rd b s m1 m2 l2 o ct2 (((w3.setCell ⟨w.heap.size,0,M⟩ (I O (k:Nat))).setCell ⟨w.heap.size,1,M⟩ (σ tl ul)).setCell ⟨w.heap.size,2,M⟩ (σ tr ur))):=
     ((h3.eG (p:=⟨w.heap.size,0,M⟩) (by show w.heap.size≠b;omega) (mf eQ É) _).eG (p:=⟨w.heap.size,1,M⟩) (by show w.heap.size≠b;omega) (Iu (mf eQ É)) _).eG (p:=⟨w.heap.size,2,M⟩) (by show w.heap.size≠b;omega) (Iu (Iu (mf eQ É))) _
    have HX:Hid (Ext b w (((w3.setCell ⟨w.heap.size,0,M⟩ (I O (k:Nat))).setCell ⟨w.heap.size,1,M⟩ (σ tl ul)).setCell ⟨w.heap.size,2,M⟩ (σ tr ur))):=
     (((((kL.2.2.trans x1).trans x2.jd).trans x3).setCell (p:=⟨w.heap.size,0,M⟩) (.inr È) _).setCell (p:=⟨w.heap.size,1,M⟩) (.inr È) _).setCell (p:=⟨w.heap.size,2,M⟩) (.inr È) _
    have Q0:=hid q0;have Q1:=hid q1;have Q2:=hid q2;clear q0 q1 q2 hW;go_wp2_with fail;exact Ç (v:=J #[I O (k:Nat),σ tl ul,σ tr ur]) (by simp[results,results187,go_sem,Q0.out,Q1.out,Q2.out]) rfl (fP aW.out ⟨tl,ul,tr,ur,ct1,rfl,Kq,HV,HV3⟩ HR HX)
end
end Go.Proofs.YtiopfihjmkfdmabGreatDoor
