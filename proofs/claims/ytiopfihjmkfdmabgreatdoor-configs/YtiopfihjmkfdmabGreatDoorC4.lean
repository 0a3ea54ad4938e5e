import Derived.Test.YtiopfihjmkfdmabGreatDoorC3
namespace Go.Proofs.YtiopfihjmkfdmabGreatDoor
open Go.Value renaming int->I,string->χ,pointer->ρ,iface->σ,tuple->φ,agg->J,slice->Z
open Go.IntKind renaming i64->O,i16->ψ
open Option renaming some->Y,none->M
open Go.Obj renaming cells->L
open Go.Ending renaming returned->υ
open Go.Proofs.Tryz Sp
open Go.RowKit
set_option maxRecDepth 100000
set_option maxHeartbeats 16000000
section
def tB(s:ByteArray)(m1 m2:Nat)(l:Sp.Bs)(o:Nat)(ct:Int×Int)(nv:Value):Array Value:=
 #[χ s,I O ((s.size-l.length:Nat):Int),I O (aC l),χ ⟨(Sp.tok l).toArray⟩,I O o,I O ct.1,I O ct.2,nv,.map (Y m1),.map (Y m2)]
namespace Sp
section
variable{ns:List Nat}
def mC(l:Bs):List Nat:=if aC l=3 then [bn (tok l)] else []
inductive lB (a:Bs):Bs->List Nat->Prop
 |nil:lB a a []
 |step {l:Bs} {ns:List Nat}:lB a l ns->lB a (next l) (ns++mC l)
theorem lB.len{a l:Bs}(h:lB a l ns):ns.length+l.length<=a.length:=by
 induction h with
 |nil=>simp
 |@step l ns h ih=>
  unfold mC;by_cases h3:aC l=3
  .have:=gl (dj (.inr (.inl h3)))
   rw[Á h3,List.length_append,List.length_singleton];omega
  .have:=cr l
   rw[Â h3,List.append_nil];omega
theorem lB.Mf{a l:Bs}(h:lB a l ns)(h3:aC l≠3):lB a (next l) ns:=by
 have:=h.step
 rwa[mC,Â h3,List.append_nil]at this
theorem pT{l t:Bs}(h:tok l=t)(hd:t.head?.any bC=false):aC l≠3:=by
 intro h3;cases l with
 |nil=>simp[aC]at h3
 |cons c r=>
  rw[cj]at h3;by_cases h1:isLet c=true
  .rw[Á h1]at h3;omega
  .by_cases h2:bC c=true
   .rw[Â h1,Á h2]at h3
    have:tok (c::r)=c::r.take (bT bC r):=by unfold tok;rw[eN,Â h1,Á h2,eJ,Á h2,á]
    rw[<-h,this]at hd;simp[h2]at hd
   .rw[Â h1,Â h2]at h3
    split at h3<;>omega
end
end Sp
def gU(ns:List Nat):List Value:=ns.map λn=>I ψ ((n:Nat):Int)
structure wB(b:Nat)(s:ByteArray)(m1 m2:Nat)(l:Sp.Bs)(o:Nat)(ct:Int×Int)(nv:Value)(ns:List Nat)(w:Wd):Prop where
 aV:w.heap[b]?=Y (L (tB s m1 m2 l o ct nv) 144)
 suf:l <:+ s.data.toList
 sz:s.size<=400
 row:w.ownsRow (b+1) 180 1 nv ns.length (gU ns)
def Rd(b:Nat)(s:ByteArray)(m1 m2:Nat)(l:Sp.Bs)(o:Nat)(ct:Int×Int)(w:Wd):Prop:=
 ∃nv ns,wB b s m1 m2 l o ct nv ns w/\lB (Sp.skip s.data.toList) l ns
section
variable {b: Nat}{s: ByteArray}{m1 m2: Nat}{l: Sp.Bs}{o: Nat}{ct: Int×Int}{nv: Value}{ns: List Nat}{w: Wd}
section
variable{w':Wd}
theorem wB.len(h:wB b s m1 m2 l o ct nv ns w):l.length<=s.size:=by have:=h.suf.length_le;simpa using this
theorem wB.lt(h:wB b s m1 m2 l o ct nv ns w):b<w.heap.size:=ah h.aV
theorem wB.fz(h:wB b s m1 m2 l o ct nv ns w)(i:Nat):w.frozen? ⟨b,i,M⟩=false:=ay h.aV i
theorem Rd.sz(h:Rd b s m1 m2 l o ct w):s.size<=400:=by obtain⟨_,_,h,_⟩:=h;exact h.sz
theorem Rd.len(h:Rd b s m1 m2 l o ct w):l.length<=s.size:=by obtain⟨_,_,h,_⟩:=h;exact h.len
theorem Rd.lt(h:Rd b s m1 m2 l o ct w):b<w.heap.size:=by obtain⟨_,_,h,_⟩:=h;exact h.lt
theorem Rd.c1(h:Rd b s m1 m2 l o ct w):w.cell? ⟨b,1,M⟩=Y (I O ((s.size-l.length:Nat):Int)):=by obtain⟨_,_,h,_⟩:=h;exact cell_of h.aV 1 rfl
theorem Rd.c2(h:Rd b s m1 m2 l o ct w):w.cell? ⟨b,2,M⟩=Y (I O (aC l)):=by obtain⟨_,_,h,_⟩:=h;exact cell_of h.aV 2 rfl
theorem Rd.c3(h:Rd b s m1 m2 l o ct w):w.cell? ⟨b,3,M⟩=Y (χ ⟨(Sp.tok l).toArray⟩):=by obtain⟨_,_,h,_⟩:=h;exact cell_of h.aV 3 rfl
theorem Rd.c4(h:Rd b s m1 m2 l o ct w):w.cell? ⟨b,4,M⟩=Y (I O o):=by obtain⟨_,_,h,_⟩:=h;exact cell_of h.aV 4 rfl
theorem Rd.c5(h:Rd b s m1 m2 l o ct w):w.cell? ⟨b,5,M⟩=Y (I O ct.1):=by obtain⟨_,_,h,_⟩:=h;exact cell_of h.aV 5 rfl
theorem Rd.c6(h:Rd b s m1 m2 l o ct w):w.cell? ⟨b,6,M⟩=Y (I O ct.2):=by obtain⟨_,_,h,_⟩:=h;exact cell_of h.aV 6 rfl
theorem Rd.c7(h:Rd b s m1 m2 l o ct w):w.cell? ⟨b,8,M⟩=Y (.map (Y m1)):=by obtain⟨_,_,h,_⟩:=h;exact cell_of h.aV 8 rfl
theorem Rd.c8(h:Rd b s m1 m2 l o ct w):w.cell? ⟨b,9,M⟩=Y (.map (Y m2)):=by obtain⟨_,_,h,_⟩:=h;exact cell_of h.aV 9 rfl
theorem Rd.fz(h:Rd b s m1 m2 l o ct w)(i:Nat):w.frozen? ⟨b,i,M⟩=false:=by obtain⟨_,_,h,_⟩:=h;exact h.fz i
theorem ng{n:Nat}{vs:List Value}(h:w.ownsRow (b+1) 180 1 nv n vs)(hn:∀k,b<k->k<w.heap.size->pf w.heap[k]?->w'.heap[k]?=w.heap[k]?):w'.ownsRow (b+1) 180 1 nv n vs:=by
 obtain⟨h1,h2⟩:=h;refine⟨h1,?_⟩
 rcases h2 with h2|⟨g,cap,cur,e,hb,hh,r⟩
 .exact .inl h2
 .exact .inr ⟨g,cap,cur,e,hb,by rw[hn g À (ah hh) (by rw[hh];exact⟨_,_,rfl⟩)];exact hh,r⟩
theorem wB.bH(h:wB b s m1 m2 l o ct nv ns w)(hb:w'.heap[b]?=w.heap[b]?)(hn:∀k,b<k->k<w.heap.size->pf w.heap[k]?->w'.heap[k]?=w.heap[k]?):wB b s m1 m2 l o ct nv ns w':=
 ⟨by rw[hb];exact h.aV,h.suf,h.sz,ng h.row hn⟩
theorem Rd.bH(h:Rd b s m1 m2 l o ct w)(hb:w'.heap[b]?=w.heap[b]?)(hn:∀k,b<k->k<w.heap.size->pf w.heap[k]?->w'.heap[k]?=w.heap[k]?):Rd b s m1 m2 l o ct w':=by obtain⟨nv,ns,h,hl⟩:=h;exact⟨nv,ns,h.bH hb hn,hl⟩
theorem wB.own(h:wB b s m1 m2 l o ct nv ns w)(i:Nat)(v:Value){l':Sp.Bs}{o':Nat}{bj:Int×Int}(hs:l' <:+ s.data.toList)(e:(tB s m1 m2 l o ct nv).setIfInBounds i v=tB s m1 m2 l' o' bj nv):wB b s m1 m2 l' o' bj nv ns (w.setCell ⟨b,i,M⟩ v):=
 ⟨by rw[ai h.aV i v,e],hs,h.sz,ng h.row (λk hk _ _=>Æ _ _ _ _ (by show k≠b;omega))⟩
end
end
section
variable{s:ByteArray}
variable{b m1 m2 o:Nat}
variable{w w1 w':Wd}
variable{l t:Sp.Bs}
variable{ct:Int×Int}
variable{nv:Value}
variable{ns:List Nat}
def bJ(s:ByteArray)(b:Nat)(w:Wd)(er:Nat×Nat)(e:Ending)(w':Wd):Prop:=
 ∃N,e=.panicked [{v:=σ 95 (ρ (Y ⟨N,0,M⟩)),recovered:=false}]/\w'.heap[N]?=Y (L #[I O ((s.size-er.2:Nat):Int),I O er.1] 101)/\Ext b w w'/\N≠b/\w.heap.size<=N
theorem bJ.ahead{er:Nat×Nat}{e:Ending}(h:Ext b w w1)(k:bJ s b w1 er e w'):bJ s b w er e w':=by obtain⟨N,h1,h2,h3,h4,h5⟩:=k;exact⟨N,h1,h2,h.trans h3,h4,Nat.le_trans h.size h5⟩
theorem eK(h:Rd b s m1 m2 l o ct w)(er:Int) :
  Calls prog 77 #[ρ (Y ⟨b,0,M⟩),I O er] w λe w'=>
   e=υ (ρ (Y ⟨w.heap.size,0,M⟩))/\w'=w.alloc (L #[I O ((s.size-l.length:Nat):Int),I O er] 101):=by
 have h1:=h.c1;go_enter func77,ntmps77
 go_wp2
 go_ret;exact⟨rfl,rfl⟩
theorem gT(h:Rd b s m1 m2 l o ct w)(er:Nat)(ei:Int)(he:ei=er) :
  bJ s b w (er,l.length) (.panicked [{v:=σ 95 (ρ (Y ⟨w.heap.size,0,M⟩)),recovered:=false}]) (w.alloc (L #[I O ((s.size-l.length:Nat):Int),I O ei] 101)):=by
 subst he;refine⟨w.heap.size,rfl,heap_alloc_new _ _,(Ext.refl b w).alloc _,?_,È⟩;have:=h.lt;omega
theorem iz(h:Sp.tok l≠t):(Sp.tok l==t)=false:=by simpa using h
theorem C9(h:Rd b s m1 m2 l o ct w)(t:Sp.Bs)(ht:Sp.tok l=t) :
  Calls prog 211 #[ρ (Y ⟨b,0,M⟩),χ ⟨t.toArray⟩] w λe w'=>e=υ (φ #[])/\w'=w:=by
 have h3:=h.c3;subst ht;go_enter func211,ntmps211;go_wp2_with fail
 go_end0
 exact⟨rfl,rfl⟩
theorem EL(h:Rd b s m1 m2 l o ct w)(t:Sp.Bs)(ht:Sp.tok l≠t) :
  Calls prog 211 #[ρ (Y ⟨b,0,M⟩),χ ⟨t.toArray⟩] w λe w'=>bJ s b w (2,l.length) e w':=by
 have h3:=h.c3;have hb:=iz ht;go_enter func211,ntmps211;go_wp2_with fail;refine(eK h 2).mono ?_;rintro e w'⟨rfl,rfl⟩;go_wp2_with fail;exact⟨rfl,gT h 2 2 rfl⟩
theorem wB.drop_eq(h:wB b s m1 m2 l o ct nv ns w):s.data.toList.drop (s.size-l.length+bh l)=l.drop (bh l):=by
 obtain⟨p,hp⟩:=h.suf;have hs:s.size=p.length+l.length:=by
  have:s.data.toList.length=s.size:=Ä;rw[<-this,<-hp,List.length_append]
 rw[<-hp,hs];rw[List.drop_append];rw[ê À,List.nil_append];congr 1;omega
theorem JR(h:Rd b s m1 m2 l o ct w)(hb:ω w w1):Rd b s m1 m2 l o ct w1:=
 h.bH (hb.block b h.lt) (λk _ hk _=>hb.block k hk)
theorem Ca(h:wB b s m1 m2 l o ct nv ns w)(hb:ω w w1):wB b s m1 m2 l o ct nv ns w1:=
 h.bH (hb.block b h.lt) (λk _ hk _=>hb.block k hk)
theorem LJ(h:wB b s m1 m2 l o ct nv ns w)(hb:ω w w1)(l':Sp.Bs)(Kx:l' <:+ s.data.toList) :
  wB b s m1 m2 l' o ct nv ns (((w1.setCell ⟨b,1,M⟩ (I O ((s.size-l'.length:Nat):Int))).setCell ⟨b,2,M⟩ (I O (aC l'))).setCell ⟨b,3,M⟩ (χ ⟨(Sp.tok l').toArray⟩)) /\
  Ext b w (((w1.setCell ⟨b,1,M⟩ (I O ((s.size-l'.length:Nat):Int))).setCell ⟨b,2,M⟩ (I O (aC l'))).setCell ⟨b,3,M⟩ (χ ⟨(Sp.tok l').toArray⟩)):=by
 have h1:=Ca h hb;have x0:Ext b w w1:=Ext.aF hb;have x1:Ext b w (w1.setCell ⟨b,1,M⟩ (I O ((s.size-l'.length:Nat):Int))):=x0.setCell (p:=⟨b,1,M⟩) (.inl rfl) _;have x2:=x1.setCell (p:=⟨b,2,M⟩) (.inl rfl) (I O (aC l'));have x3:=x2.setCell (p:=⟨b,3,M⟩) (.inl rfl) (χ ⟨(Sp.tok l').toArray⟩);refine⟨⟨?_,Kx,h.sz,?_⟩,x3⟩
 .have e:=ai (ai (ai h1.aV 1 (I O ((s.size-l'.length:Nat):Int))) 2 (I O (aC l'))) 3 (χ ⟨(Sp.tok l').toArray⟩)
  rw[e];rfl
 .refine ng h1.row (λk hk _ _=>?_)
  rw[Æ _ _ _ _ (by show k≠b;omega),Æ _ _ _ _ (by show k≠b;omega),Æ _ _ _ _ (by show k≠b;omega)]
theorem sW(h:Below w.drew.heap.size w.drew w1):ω w w1:=⟨h.os,h.tape,h.output,h.size,h.block⟩
theorem P3(h:wB b s m1 m2 l o ct nv ns w)(hb:Below w.drew.heap.size w.drew w1) :
  w1.cell? ⟨b,1,M⟩=Y (I O ((s.size-l.length:Nat):Int))/\w1.cell? ⟨b,2,M⟩=Y (I O (aC l))/\w1.cell? ⟨b,3,M⟩=Y (χ ⟨(Sp.tok l).toArray⟩)/\w1.frozen? ⟨b,1,M⟩=false/\w1.frozen? ⟨b,2,M⟩=false/\w1.frozen? ⟨b,3,M⟩=false:=by
 have h1:=Ca h (sW hb);exact⟨cell_of h1.aV 1 rfl,cell_of h1.aV 2 rfl,cell_of h1.aV 3 rfl,h1.fz 1,h1.fz 2,h1.fz 3⟩
theorem AW(s:ByteArray)(l:Sp.Bs):Value.agg (om s l)=J #[I O ((s.size-l.length:Nat):Int),I O (aC l),χ ⟨(Sp.tok l).toArray⟩]:=rfl
end
end
section
variable{b m1 m2 o B v base n k:Nat}
variable{s:ByteArray}
variable{l t:Sp.Bs}
variable{ct:Int×Int}
variable{ns:List Nat}
variable{w w' w3:Wd}
theorem pU{nv:Value}(h:wB b s m1 m2 l o ct nv ns w) :
  Calls prog 212 #[ρ (Y ⟨b,0,M⟩)] w λe w'=>e=υ (φ #[])/\wB b s m1 m2 (Sp.next l) o ct nv ns w'/\Ext b w w':=by
 have h0:w.cell? ⟨b,0,M⟩=Y (χ s):=cell_of h.aV 0 rfl;have h1:w.cell? ⟨b,1,M⟩=Y (I O ((s.size-l.length:Nat):Int)):=cell_of h.aV 1 rfl;have h3:w.cell? ⟨b,3,M⟩=Y (χ ⟨(Sp.tok l).toArray⟩):=cell_of h.aV 3 rfl;have hlen:=h.len;have ea:=h.sz;have MV:=ef l;have hle:=fY l;have ha:s.size-l.length+bh l<=s.size:=À;have Nc:Hid (IntKind.i64.wrap (((s.size-l.length:Nat):Int)+((bh l:Nat):Int))=((s.size-l.length+bh l:Nat):Int)):=by unfold Hid;rw[IntWalk.i64_in _ À];omega
 have hd:Hid (Sp.skip (s.data.toList.drop (s.size-l.length+bh l))=Sp.next l):=by unfold Hid;rw[h.drop_eq];rfl
 have aaW:Sp.next l <:+ s.data.toList:=(pJ l).trans h.suf;go_enter func212,ntmps212
 go_region_with (go_at_call 38;go_must (rw[Nc.out]);go_must (refine(zF s _ _ ha ea).mono ?_);go_must (rintro e w1 ⟨rfl,hb⟩);go_must (rw[hd.out,AW]);obtain⟨k1,k2,k3,f1,f2,f3⟩:=P3 h hb)
 all_goals
  go_end0
  exact⟨rfl,LJ h (sW hb) _ aaW⟩
theorem iv(h:Rd b s m1 m2 l o ct w)(h3:aC l≠3) :
  Calls prog 212 #[ρ (Y ⟨b,0,M⟩)] w λe w'=>e=υ (φ #[])/\Rd b s m1 m2 (Sp.next l) o ct w'/\Ext b w w':=by
 obtain⟨nv,ns,h,hl⟩:=h;refine(pU h).mono ?_;rintro e w'⟨rfl,h1,x1⟩;exact⟨rfl,⟨nv,ns,h1,hl.Mf h3⟩,x1⟩
def eM(a:Nat)(t:Sp.Bs):Nat:=t.foldl (λa c=>a*10+(c.toNat-48)) a
theorem zi:∀(t:Sp.Bs) (a:Nat),a<=eM a t
 |[],_=>È
 |c::r,a=>by have:=zi r (a*10+(c.toNat-48));have e:eM a (c::r)=eM (a*10+(c.toNat-48)) r:=rfl;rw[e];omega
theorem PM(ι:Nat)(hM:ι<1844674407370955162):∀(t:Sp.Bs) (a:Nat),a<=ι->(∀c∈t,bC c=true)->Lib.parseUintM ι a t=if eM a t<=ι then .ok (eM a t) else .range
 |[],a,ha,_=>by have:eM a []=a:=rfl;rw[this,Á ha];rfl
 |c::r,a,ha,hd=>by
  have hc:48<=c.toNat/\c.toNat<=57:=by have:=hd c Ä;unfold bC at this;simpa using this
  have e:eM a (c::r)=eM (a*10+(c.toNat-48)) r:=rfl;have h1:Lib.parseUintM ι a (c::r)=if 1844674407370955162<=a then .range else if ι<a*10+(c.toNat-48) then .range else Lib.parseUintM ι (a*10+(c.toNat-48)) r:=by show(if 48<=c.toNat/\c.toNat<=57 then _ else _)=_;rw[Á hc]
  rw[h1,Â À,e];by_cases hm:ι<a*10+(c.toNat-48)
  .rw[Á hm,Â]
   have:=zi r (a*10+(c.toNat-48));omega
  .rw[Â hm]
   exact PM ι hM r _ À (λd hdm=>hd d (by simp[hdm]))
theorem tJ(t:Sp.Bs)(db:t≠[])(hd:∀c∈t,bC c=true):Lib.parseIntB 16 t=if bn t<=32767 then .ok ((bn t:Nat):Int) else .range:=by
 cases t with
 |nil=>exact absurd rfl db
 |cons c r=>
  have hc:48<=c.toNat/\c.toNat<=57:=by have:=hd c Ä;unfold bC at this;simpa using this
  have h1:Lib.parseUintB 16 (c::r)=if eM 0 (c::r)<=65535 then .ok (eM 0 (c::r)) else .range:=by unfold Lib.parseUintB;rw[Â Ä];exact PM 65535 À (c::r) 0 À hd
  have e0:bn (c::r)=eM 0 (c::r):=rfl;unfold Lib.parseIntB;simp only;rw[Â À,h1,e0];by_cases h2:eM 0 (c::r)<=65535
  .rw[Á h2]
   simp only;by_cases h3:eM 0 (c::r)<=32767
   .rw[Â (by simp;omega),Â À,Â À,Á h3]
   .rw[Á (by simp;omega),Â h3]
  .rw[Â h2,Â À]
theorem rD(p:UInt8->Bool):∀(l:Sp.Bs),∀c∈l.takeWhile p,p c=true
 |[],c,h=>by simp at h
 |d::r,c,h=>by
  rw[List.takeWhile_cons]at h;split at h
  .rename_i hd
   rcases List.mem_cons.1 h with rfl|h
   .exact hd
   .exact rD p r c h
  .simp at h
theorem Ck(p:UInt8->Bool)(l:Sp.Bs):l.take (bT p l)=l.takeWhile p:=by unfold bT;exact(List.prefix_iff_eq_take.1 (List.takeWhile_prefix p)).symm
theorem dA(h:aC l=3):Sp.tok l≠[]/\∀c∈Sp.tok l,bC c=true:=by
 refine⟨λe=>?_,?_⟩
 .have:=dj (l:=l) (.inr (.inl h))
  rw[<-ef,e]at this;simp at this
 .cases l with
  |nil=>simp[aC]at h
  |cons c r=>
   have hk:=cj c r;have hl:=eN c r;by_cases h1:Sp.isLet c=true
   .rw[h,Á h1]at hk;omega
   .by_cases h2:bC c=true
    .rw[Â h1,Á h2]at hl
     unfold Sp.tok;rw[hl,Ck];exact rD _ _
    .rw[h,Â h1,Â h2]at hk
     split at hk<;>omega
theorem oe(t:Sp.Bs):(⟨t.toArray⟩:ByteArray).size=t.length:=by simp[ByteArray.size]
theorem vX(t:Sp.Bs)(db:t≠[])(hd:∀c∈t,bC c=true)(hl:t.length<=400)(hv:bn t<=32767)(w:Wd) :
  Calls prog 240 #[χ ⟨t.toArray⟩,I O 10,I O 16] w λe w'=>e=υ (φ #[I O ((bn t:Nat):Int),.nilIface])/\ω w w':=by
 have hp:=tJ t db hd;rw[Á hv]at hp;refine(strconv_ParseInt_10_at16_ok ⟨t.toArray⟩ (by rw[oe];omega) ((bn t:Nat):Int) (by simpa using hp) w).mono ?_;rintro e w'⟨rfl,h⟩;refine⟨rfl,?_⟩
 rcases h with rfl|⟨u,rfl⟩
 .exact Å
 .exact Lib.bytesWorld_below _ _ _
theorem zC(t:Sp.Bs)(db:t≠[])(hd:∀c∈t,bC c=true)(hl:t.length<=400)(hv:¬ bn t<=32767)(w:Wd)(hL:Laid w) :
  Calls prog 240 #[χ ⟨t.toArray⟩,I O 10,I O 16] w λe w'=>∃(n:Int) (N:Nat),e=υ (φ #[I O n,σ 429 (ρ (Y ⟨N,0,M⟩))])/\ω w w':=by
 have hp:=tJ t db hd;rw[Â hv]at hp;obtain⟨tp,p,hc⟩:=hL.errR;refine(strconv_ParseInt_10_at16_range ⟨t.toArray⟩ (by rw[oe];omega) (by simpa using hp) (σ tp p) w hc (.inr ⟨tp,p,rfl⟩)).mono ?_;rintro e w'⟨N,rfl,_,_,hb⟩;exact⟨_,N,rfl,hb⟩
theorem Laid.below(h:Laid w)(hb:Below B w w')(hB:11<=B):Laid w':=by
 have:=h.size;have:=hb.size;refine⟨À,λk hk=>?_,λk hk=>?_,?_,?_,?_⟩
 .rw[hb.cell (by show 1<B;omega)];exact h.ops k hk
 .rw[hb.cell (by show 2<B;omega)];exact h.rels k hk
 .rw[hb.cell (by show 9<B;omega)];exact h.errS
 .rw[hb.cell (by show 10<B;omega)];exact h.errR
 .exact var?_below hb (g:=6) Ã À h.pow
theorem vC(hk:aC l=3)(hlen:l.length<=400):∃t:ByteArray,t=⟨(Sp.tok l).toArray⟩/\t.size=(Sp.tok l).length/\0<t.size/\(Sp.tok l).length<=400/\∀hh:0<t.size,((Sp.tok l).head?=Y 48↔(t[0].toNat:Int)=48):=by
 obtain⟨db,_⟩:=dA hk;refine⟨⟨(Sp.tok l).toArray⟩,rfl,oe _,?_,?_,?_⟩
 .rw[oe];exact List.length_pos_iff.2 db
 .have:=ef l;have:=fY l;omega
 .intro hh
  have e:(Sp.tok l).head?=Y ((⟨(Sp.tok l).toArray⟩:ByteArray)[0]):=by have:=byte_at ⟨(Sp.tok l).toArray⟩ 0 hh;simp at this;rw[List.head?_eq_getElem?];exact this
  rw[e];generalize (⟨(Sp.tok l).toArray⟩:ByteArray)[0]=c;constructor
  .intro h
   cases h;rfl
  .intro h
   congr 1;apply ç.1;show c.toNat=48;omega
theorem qd(hv:gh t=Y v):¬(1<t.length/\t.head?=Y 48)/\bn t<=32767/\v=bn t:=by
 unfold gh at hv;split at hv
 .cases hv
 .rename_i hn
  split at hv
  .rename_i hle
   cases hv;exact⟨hn,hle,rfl⟩
  .cases hv
theorem EZ(hv:gh t=M):¬bn t<=32767∨(bn t<=32767/\1<t.length/\t.head?=Y 48):=by
 unfold gh at hv;split at hv
 .rename_i hn
  by_cases h:bn t<=32767
  .exact .inr ⟨h,hn⟩
  .exact .inl h
 .split at hv
  .cases hv
  .rename_i h;exact .inl h
theorem Ip:(prog.info? 180).map (λi=>(i.zero,i.size,i.bytes))=Y (Y (I ψ 0),1,2):=Ã
theorem Bu{e:TypeId}{v:Value}{vs:List Value}(h:w.ownsRow base e 1 v (n+1) vs):∃g cap,v=Z (Y ⟨g,0,M⟩) (n+1) cap:=by
 rcases h.2 with⟨_,h⟩|⟨g,cap,cur,rfl,_⟩
 .omega
 .exact⟨g,cap,rfl⟩
theorem Jt{nv:Value}{ob:Obj}(h:wB b s m1 m2 l o ct nv ns w)(d:Nat)(v':Value)
  (kO:w3.ownsRow (b+1) 180 1 v' (ns.length+1) (gU ns++[I ψ ((d:Nat):Int)])) (hg:(w.alloc ob).grownBy w3 nv.ownBlock):
  w3.heap[b]?=Y (L (tB s m1 m2 l o ct nv) 144)/\wB b s m1 m2 l o ct v' (ns++[d]) (w3.setCell ⟨b,7,M⟩ v')/\Ext b w (w3.setCell ⟨b,7,M⟩ v'):=by
 have QS:∀k,nv.ownBlock=Y k->b<k/\pf w.heap[k]?:=by
  intro k hk
  rcases h.row.2 with⟨rfl,_⟩|⟨g',cap,cur,rfl,hb,hh,_⟩
  .simp[Value.ownBlock]at hk
  .simp[Value.ownBlock]at hk
   subst hk;exact⟨hb,by rw[hh];exact⟨_,_,rfl⟩⟩
 have df:=h.lt;have hs:w.heap.size+1<=w3.heap.size:=by have:=hg.size;simpa using this
 have Qr:∀k,k<w.heap.size->nv.ownBlock≠Y k->w3.heap[k]?=w.heap[k]?:=λk hk db=>by rw[hg.block k (by simp;omega) (λe=>db e.symm)];exact Below.heap_alloc _ _ _ hk
 have e:w3.heap[b]?=Y (L (tB s m1 m2 l o ct nv) 144):=by rw[Qr b df (λe=>by have:=(QS b e).1;omega)];exact h.aV
 refine⟨e,⟨?_,h.suf,h.sz,?_⟩,⟨hg.os,hg.tape,hg.output,by simp[World.setCell];omega,λk hk hb hn=>?_⟩⟩
 .rw[ai e 7 v'];rfl
 .have:=ng (b:=b) (w':=w3.setCell ⟨b,7,M⟩ v') kO (λk hk _ _=>Æ _ _ _ _ (by show k≠b;omega))
  rw[List.length_append,List.length_singleton];unfold gU at*;rw[List.map_append];exact this
 .rw[Æ _ _ _ _ (by show k≠b;exact hb)]
  exact Qr k hk (λe=>hn (QS k e).1 (QS k e).2)
theorem KP(h:Rd b s m1 m2 l o ct w)(hk:aC l=3)(hv:gh (Sp.tok l)=Y v) :
  Calls prog 232 #[ρ (Y ⟨b,0,M⟩)] w λe w'=>e=υ (I ψ v)/\Rd b s m1 m2 (Sp.next l) o ct w'/\Ext b w w':=by
 obtain⟨nv,ns,h,hl⟩:=h;obtain⟨i0,hi,Kv,kh,ff⟩:=info_parts Ip;obtain⟨db,hd⟩:=dA hk;obtain⟨hn,hle,rfl⟩:=qd hv;obtain⟨t,et,ea,h0,hlen,hx⟩:=vC hk (by have:=h.len;have:=h.sz;omega);have hx:=hx h0;have h3:w.cell? ⟨b,3,M⟩=Y (χ t):=by rw[et];exact cell_of h.aV 3 rfl
 have HP:Hid (∀w:Wd,Calls prog 240 #[χ t,I O 10,I O 16] w λe w'=>e=υ (φ #[I O ((bn (Sp.tok l):Nat):Int),.nilIface])/\ω w w'):=by rw[et];exact vX (Sp.tok l) db hd hlen hle
 have HL:Hid (lB (Sp.skip s.data.toList) (Sp.next l) (ns++[bn (Sp.tok l)])):=by
  have:=hl.step
  rwa[mC,Á hk]at this
 have pv:ns.length<=400:=by
  have h1:=hl.len;have h2:=tf s.data.toList;have h3:=h.sz;have:s.data.toList.length=s.size:=Ä;omega
 clear hl;generalize bn (Sp.tok l)=d at*;by_cases h1:1<t.size
 .have Tc:¬((t[0].toNat:Int)=48):=λe=>hn ⟨À,hx.2 e⟩
  have b48:((t[0].toNat:Int)==48)=false:=by simpa using Tc
  clear hx hn ea hd db hk hv et;go_enter func232,ntmps232;go_wp2_with fail;refine(HP.out _).mono ?_;rintro e w1⟨rfl,hb⟩;go_wp2_with fail;refine(pU (Ca h hb)).mono ?_;rintro e w2⟨rfl,h2,x2⟩;have c7:w2.cell? ⟨b,7,M⟩=Y nv:=cell_of h2.aV 7 rfl;have F3:=h2.lt;go_wp2_with (first
   |(at_builtin;refine wpList_append_own_at _ rfl _ _ 77 rfl (b+1) 180 i0 (I ψ 0) 1 2 underlying77 hi Kv kh ff rfl É nv ns.length (gU ns) rfl (h2.row.alloc _) ⟨w2.heap.size,0,M⟩ 1 1 [I ψ (d:Nat)] rfl rfl (cell_one_new _ _ _) ?q1 ?q2 ?q3 ?q4 ?_))
  case q1=>intro u hu;simp at hu;subst hu;rfl
  case q2=>unfold maxLen;omega
  case q3=>omega
  case q4=>simp;omega
  intro v' w3 jf eZ _ _;obtain⟨g3,Qw,rfl⟩:=Bu jf;obtain⟨Gr,DL,x3⟩:=Jt h2 d _ jf eZ;have c3:w3.cell? ⟨b,7,M⟩=Y nv:=cell_of Gr 7 rfl;have f3:=ay Gr 7;have H3:Hid (wB b s m1 m2 (Sp.next l) o ct _ (ns++[d]) (w3.setCell ⟨b,7,M⟩ (Z (Y ⟨g3,0,M⟩) (ns.length+1) Qw))/\Ext b w2 (w3.setCell ⟨b,7,M⟩ (Z (Y ⟨g3,0,M⟩) (ns.length+1) Qw))):=⟨DL,x3⟩;clear DL x3 Gr jf eZ;go_wp2_with fail;go_ret;exact⟨rfl,⟨_,_,H3.1,HL.out⟩,((Ext.aF hb).trans x2).trans H3.2⟩
 .have o8:¬(1:Int)<(t.size:Int):=À
  clear hx hn ea hd db hk hv et;go_enter func232,ntmps232;go_wp2_with fail;refine(HP.out _).mono ?_;rintro e w1⟨rfl,hb⟩;go_wp2_with fail;refine(pU (Ca h hb)).mono ?_;rintro e w2⟨rfl,h2,x2⟩;have c7:w2.cell? ⟨b,7,M⟩=Y nv:=cell_of h2.aV 7 rfl;have F3:=h2.lt;go_wp2_with (first
   |(at_builtin;refine wpList_append_own_at _ rfl _ _ 77 rfl (b+1) 180 i0 (I ψ 0) 1 2 underlying77 hi Kv kh ff rfl É nv ns.length (gU ns) rfl (h2.row.alloc _) ⟨w2.heap.size,0,M⟩ 1 1 [I ψ (d:Nat)] rfl rfl (cell_one_new _ _ _) ?q1 ?q2 ?q3 ?q4 ?_))
  case q1=>intro u hu;simp at hu;subst hu;rfl
  case q2=>unfold maxLen;omega
  case q3=>omega
  case q4=>simp;omega
  intro v' w3 jf eZ _ _;obtain⟨g3,Qw,rfl⟩:=Bu jf;obtain⟨Gr,DL,x3⟩:=Jt h2 d _ jf eZ;have c3:w3.cell? ⟨b,7,M⟩=Y nv:=cell_of Gr 7 rfl;have f3:=ay Gr 7;have H3:Hid (wB b s m1 m2 (Sp.next l) o ct _ (ns++[d]) (w3.setCell ⟨b,7,M⟩ (Z (Y ⟨g3,0,M⟩) (ns.length+1) Qw))/\Ext b w2 (w3.setCell ⟨b,7,M⟩ (Z (Y ⟨g3,0,M⟩) (ns.length+1) Qw))):=⟨DL,x3⟩;clear DL x3 Gr jf eZ;go_wp2_with fail;go_ret;exact⟨rfl,⟨_,_,H3.1,HL.out⟩,((Ext.aF hb).trans x2).trans H3.2⟩
theorem GV(h:Rd b s m1 m2 l o ct w)(hL:Laid w)(hk:aC l=3)(hv:gh (Sp.tok l)=M) :
  Calls prog 232 #[ρ (Y ⟨b,0,M⟩)] w λe w'=>bJ s b w (2,l.length) e w':=by
 obtain⟨db,hd⟩:=dA hk;obtain⟨t,et,ea,h0,hlen,hx⟩:=vC hk (by have:=h.len;have:=h.sz;omega);have hx:=hx h0;have h3:w.cell? ⟨b,3,M⟩=Y (χ t):=by rw[h.c3,et]
 rcases EZ hv with hle|⟨hle,h1,Tc⟩
 .have HP:Hid (Calls prog 240 #[χ t,I O 10,I O 16] w λe w'=>∃(n:Int) (N:Nat),e=υ (φ #[I O n,σ 429 (ρ (Y ⟨N,0,M⟩))])/\ω w w'):=by
   rw[et];exact zC (Sp.tok l) db hd hlen hle w hL
  clear hx ea hd db hk hv et hle;go_enter func232,ntmps232;go_wp2_with fail;refine(HP.out).mono ?_;rintro e w1⟨n,N,rfl,hb⟩;go_wp2_with fail;refine(eK (JR h hb) 2).mono ?_;rintro e w'⟨rfl,rfl⟩;go_wp2_with fail;exact⟨rfl,bJ.ahead (Ext.aF hb) (gT (JR h hb) 2 2 rfl)⟩
 .have HP:Hid (∀w:Wd,Calls prog 240 #[χ t,I O 10,I O 16] w λe w'=>e=υ (φ #[I O ((bn (Sp.tok l):Nat):Int),.nilIface])/\ω w w'):=by
   rw[et];exact vX (Sp.tok l) db hd hlen hle
  generalize bn (Sp.tok l)=d at*;have o8:1<t.size:=À;have e48:(t[0].toNat:Int)=48:=hx.1 Tc;have b48:((t[0].toNat:Int)==48)=true:=by simpa using e48
  clear hx ea hd db hk hv et h1 Tc e48;go_enter func232,ntmps232;go_wp2_with fail;refine(HP.out _).mono ?_;rintro e w1⟨rfl,hb⟩;go_wp2_with fail;refine(eK (JR h hb) 2).mono ?_;rintro e w'⟨rfl,rfl⟩;go_wp2_with fail;exact⟨rfl,bJ.ahead (Ext.aF hb) (gT (JR h hb) 2 2 rfl)⟩
theorem dH(h:Rd b s m1 m2 l o ct w)(t:Sp.Bs)(ht:Sp.tok l=t)(hd:t.head?.any bC=false:=by decide) :
  Calls prog 184 #[ρ (Y ⟨b,0,M⟩),χ ⟨t.toArray⟩] w λe w'=>e=υ (φ #[])/\Rd b s m1 m2 (Sp.next l) o ct w'/\Ext b w w':=by
 go_enter func184,ntmps184;go_wp2_with fail;refine(C9 h t ht).mono ?_;rintro e w'⟨rfl,rfl⟩;go_wp2_with fail;refine(iv h (pT ht hd)).mono ?_;rintro e w'⟨rfl,h1,x1⟩;go_wp2_with fail
 go_end0
 exact⟨rfl,h1,x1⟩
theorem nG(h:Rd b s m1 m2 l o ct w)(t:Sp.Bs)(ht:Sp.tok l≠t) :
  Calls prog 184 #[ρ (Y ⟨b,0,M⟩),χ ⟨t.toArray⟩] w λe w'=>bJ s b w (2,l.length) e w':=by
 go_enter func184,ntmps184;go_wp2_with fail;refine(EL h t ht).mono ?_;rintro e w' hf;obtain⟨N,rfl,hr⟩:=hf;exact⟨rfl,N,rfl,hr⟩
theorem xO(h:Rd b s m1 m2 l o ct w)(o':Nat)(oi:Int)(ho:oi=o') :
  Rd b s m1 m2 l o' ct (w.setCell ⟨b,4,M⟩ (I O oi))/\Ext b w (w.setCell ⟨b,4,M⟩ (I O oi)):=by
 subst ho;obtain⟨nv,ns,h,hl⟩:=h;exact⟨⟨nv,ns,h.own 4 (I O o') h.suf rfl,hl⟩,(Ext.refl b w).setCell (p:=⟨b,4,M⟩) (.inl rfl) _⟩
theorem BF(h:Rd b s m1 m2 l o ct w)(t:Sp.Bs)(ht:Sp.tok l≠t) :
  Calls prog 213 #[ρ (Y ⟨b,0,M⟩),χ ⟨t.toArray⟩] w λe w'=>bJ s b w (2,l.length) e w':=by
 go_enter func213,ntmps213;go_wp2_with fail;refine(EL h t ht).mono ?_;rintro e w' hf;obtain⟨N,rfl,hr⟩:=hf;exact⟨rfl,N,rfl,hr⟩
theorem so(h:Rd b s m1 m2 l 12 ct w)(t:Sp.Bs)(ht:Sp.tok l=t) :
  Calls prog 213 #[ρ (Y ⟨b,0,M⟩),χ ⟨t.toArray⟩] w λe w'=>bJ s b w (3,l.length) e w':=by
 have h4:w.cell? ⟨b,4,M⟩=Y (I O 12):=h.c4;go_enter func213,ntmps213;go_wp2_with fail;refine(C9 h t ht).mono ?_;rintro e w'⟨rfl,rfl⟩;go_wp2_with fail;refine(eK h 3).mono ?_;rintro e w'⟨rfl,rfl⟩;go_wp2_with fail;exact⟨rfl,gT h 3 3 rfl⟩
theorem jP(h:Rd b s m1 m2 l o ct w)(ho:o<12)(t:Sp.Bs)(ht:Sp.tok l=t)(hd:t.head?.any bC=false:=by decide) :
  Calls prog 213 #[ρ (Y ⟨b,0,M⟩),χ ⟨t.toArray⟩] w λe w'=>e=υ (φ #[])/\Rd b s m1 m2 (Sp.next l) (o+1) ct w'/\Ext b w w':=by
 have h4:=h.c4;have f4:=h.fz 4;have db:((o:Int)==12)=false:=by simp;omega
 have hr:=xO h (o+1) ((o:Int)+1) À;obtain⟨h1,x1⟩:=hr;have H1:Hid (Rd b s m1 m2 l (o+1) ct (w.setCell ⟨b,4,M⟩ (I O ((o:Int)+1)))):=h1;clear h1;go_enter func213,ntmps213;go_wp2_with fail;refine(C9 h t ht).mono ?_;rintro e w'⟨rfl,rfl⟩;go_wp2_with fail;refine(iv H1.out (pT ht hd)).mono ?_;rintro e w'⟨rfl,h2,x2⟩;go_wp2_with fail
 go_end0
 exact⟨rfl,h2,x1.trans x2⟩
theorem NS(h:Rd b s m1 m2 l o ct w)(p:Int) :
  Rd b s m1 m2 l o (p,ct.2) (w.setCell ⟨b,5,M⟩ (I O p))/\Ext b w (w.setCell ⟨b,5,M⟩ (I O p)):=by
 obtain⟨nv,ns,h,hl⟩:=h;exact⟨⟨nv,ns,h.own 5 (I O p) h.suf rfl,hl⟩,(Ext.refl b w).setCell (p:=⟨b,5,M⟩) (.inl rfl) _⟩
theorem SW(h:Rd b s m1 m2 l o ct w)(q:Int) :
  Rd b s m1 m2 l o (ct.1,q) (w.setCell ⟨b,6,M⟩ (I O q))/\Ext b w (w.setCell ⟨b,6,M⟩ (I O q)):=by
 obtain⟨nv,ns,h,hl⟩:=h;exact⟨⟨nv,ns,h.own 6 (I O q) h.suf rfl,hl⟩,(Ext.refl b w).setCell (p:=⟨b,6,M⟩) (.inl rfl) _⟩
theorem gG(h:Rd b s m1 m2 l o ct w) :
  Calls prog 186 #[ρ (Y ⟨b,0,M⟩)] w λe w'=>e=υ (I O ct.2)/\Rd b s m1 m2 l o (ct.1,RowKit.wrap64 (ct.2+1)) w'/\Ext b w w':=by
 have h6:=h.c6;have f6:=h.fz 6;obtain⟨h1,x1⟩:=SW h (RowKit.wrap64 (ct.2+1));have H1:Hid (Rd b s m1 m2 l o (ct.1,RowKit.wrap64 (ct.2+1)) (w.setCell ⟨b,6,M⟩ (I O (RowKit.wrap64 (ct.2+1))))):=h1;clear h1;go_enter func186,ntmps186;go_wp2_with fail;go_ret;exact⟨rfl,H1.out,x1⟩
theorem dY(h:aS l=Y k):∃c:UInt8,Sp.tok l=[c]/\aC l=2/\c.toNat<105/\97<=c.toNat/\k=c.toNat-97:=by
 unfold aS at h;split at h
 .rename_i c e
  split at h
  .rename_i hc
   cases h
   refine⟨c,e,hc.1,hc.2,?_,rfl⟩;cases l with
   |nil=>simp[aC]at hc
   |cons d r=>
    rw[cj]at hc;have hd:Sp.isLet d=true:=by
     by_cases hd:Sp.isLet d=true
     .exact hd
     .simp[hd]at hc
      split at hc
      .omega
      .split at hc<;>omega
    have:Sp.tok (d::r)=d::(r.take (bT Sp.isLet r)):=by unfold Sp.tok;rw[eN,Á hd,eJ,Á hd,á]
    rw[this]at e;have e1:d=c:=(List.cons.inj e).1;subst e1;unfold Sp.isLet at hd;simp at hd;omega
  .cases h
 .cases h
theorem pO(c:UInt8):∃t:ByteArray,t=⟨[c].toArray⟩/\t.size=1/\∀h:0<t.size,t[0]=c:=⟨⟨[c].toArray⟩,rfl,rfl,λ_=>rfl⟩
theorem nT(h:Rd b s m1 m2 l o ct w)(hk:aS l=Y k) :
  Calls prog 185 #[ρ (Y ⟨b,0,M⟩)] w λe w'=>e=υ (I O k)/\Rd b s m1 m2 (Sp.next l) o ct w'/\Ext b w w':=by
 obtain⟨c,ht,qq,F8,px,rfl⟩:=dY hk;obtain⟨t,et,jW,hx⟩:=pO c;have h0:0<t.size:=À;have h2:w.cell? ⟨b,2,M⟩=Y (I O 2):=by rw[h.c2,qq];rfl
 have h3:w.cell? ⟨b,3,M⟩=Y (χ t):=by rw[h.c3,ht,et]
 have zH:(t[0].toNat:Int)<105:=by rw[hx];omega
 have wO:(97:Int)<=(t[0].toNat:Int):=by rw[hx];omega
 have aW:Hid (((c.toNat-97:Nat):Int)=(t[0].toNat:Int)-97):=by unfold Hid;rw[hx];omega
 have hd:decide ((105:Int)<=(t[0].toNat:Int))=false:=by simp;omega
 have HK3:Hid (aC l≠3):=by unfold Hid;omega
 clear hx et hk F8 px qq ht;go_enter func185,ntmps185;go_wp2_with fail;refine(iv h HK3.out).mono ?_;rintro e w'⟨rfl,h1,x1⟩;go_wp2_with fail;go_ret;exact⟨dc (by rw[aW.out]),h1,x1⟩
theorem yM(h:Rd b s m1 m2 l o ct w)(hk:aS l=M) :
  Calls prog 185 #[ρ (Y ⟨b,0,M⟩)] w λe w'=>bJ s b w (2,l.length) e w':=by
 have h2:=h.c2;have h3:=h.c3;by_cases qq:aC l=2
 .by_cases hln:(Sp.tok l).length=1
  .obtain⟨c,ht⟩:∃c,Sp.tok l=[c]:=by
    match hm:Sp.tok l,hln with
    |[c],_=>exact⟨c,rfl⟩
   obtain⟨t,et,jW,hx⟩:=pO c;have h0:0<t.size:=À;have nN:105<=c.toNat:=by unfold aS at hk;rw[ht]at hk;simp[qq]at hk;omega
   rw[qq]at h2;have Gq:w.cell? ⟨b,2,M⟩=Y (I O 2):=h2;rw[ht,<-et]at h3;have hd:decide ((105:Int)<=(t[0].toNat:Int))=true:=by simp;rw[hx];omega
   have Jf:(105:Int)<=(t[0].toNat:Int):=by simpa using hd
   clear h2 hx et ht nN hk qq hln;go_enter func185,ntmps185;go_wp2_with fail;refine(eK h 2).mono ?_;rintro e w'⟨rfl,rfl⟩;go_wp2_with fail;exact⟨rfl,gT h 2 2 rfl⟩
  .rw[qq]at h2
   have Gq:w.cell? ⟨b,2,M⟩=Y (I O 2):=h2;generalize et:(⟨(Sp.tok l).toArray⟩:ByteArray)=t at h3;have jW:((t.size:Int)==1)=false:=by
    rw[<-et];have:(⟨(Sp.tok l).toArray⟩:ByteArray).size=(Sp.tok l).length:=by simp[ByteArray.size]
    rw[this];simp;omega
   have gN:¬((t.size:Int)=1):=by simpa using jW
   clear h2 et hk qq hln;go_enter func185,ntmps185;go_wp2_with fail;refine(eK h 2).mono ?_;rintro e w'⟨rfl,rfl⟩;go_wp2_with fail;exact⟨rfl,gT h 2 2 rfl⟩
 .have hb:(((aC l:Nat):Int)==2)=false:=by simp;omega
  have DK:¬(((aC l:Nat):Int)=2):=À;clear hk qq;generalize aC l=kd at h2 hb DK;go_enter func185,ntmps185;go_wp2_with fail;refine(eK h 2).mono ?_;rintro e w'⟨rfl,rfl⟩;go_wp2_with fail;exact⟨rfl,gT h 2 2 rfl⟩
end
end Go.Proofs.YtiopfihjmkfdmabGreatDoor
