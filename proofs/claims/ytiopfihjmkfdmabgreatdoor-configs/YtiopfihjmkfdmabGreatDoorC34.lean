import Derived.Test.YtiopfihjmkfdmabGreatDoorC33
namespace Go.Proofs.YtiopfihjmkfdmabGreatDoor
open Option renaming none->M,some->Y
open Go.Value renaming pointer->ρ,int->I,string->χ
open Go.IntKind renaming i64->O
open Go.Ending renaming returned->υ
open Go.Obj renaming cells->L
open Go.Proofs.Tryz Sp
open Go.RowKit
set_option maxRecDepth 100000
set_option maxHeartbeats 16000000
section
section
variable{base b pb o k rel:Nat}
variable{s:ByteArray}
variable{l t l1:Sp.Bs}
variable{w w':Wd}
theorem tg(base b pb:Nat)(s:ByteArray):∀(n o:Nat),o<=12->mH 204 base b pb s o n (bp Tr n o)
 |0,_,_=>λl _ _ hl=>absurd hl (Nat.not_lt_zero _)
 |n+1,o,ho=>by
  intro l p w hl h hlim;have IH:o<12->mH 204 base b pb s (o+1) n (bp Tr n (o+1)):=λud=>tg base b pb s n (o+1) À
  by_cases WQ:Sp.tok l=[45]
  .exact EM base b pb s o n ho IH l p w hl h hlim WQ
  by_cases WL:Sp.tok l=[40]
  .refine Aj base b pb s o n ho (λud=>?_) (E5 base b pb s) l p w hl h hlim WL
   have hd:∀l (x:Sm) l1,bp Tr n (o+1) l=.ok (x,l1)->l1.length<=l.length:=λl x l1 e=>by have:=jz (A:=Tr) n (o+1) l x l1 e;omega
   exact yB base b pb s (o+1) n (pR Tr (bp Tr n (o+1))) (λl x l1 e=>vg (A:=Tr) hd l x l1 e) (qh base b pb s (o+1) n _ hd (IH ud))
  by_cases hk:aC l=3
  .cases hv:gh (Sp.tok l) with
   |some v=>exact CJ base b pb s o n l p w h hlim hk v hv
   |none=>
    have hvn:aS l=M:=by
     cases hq:aS l with
     |none=>rfl
     |some q=>have:=fL hq;omega
    refine vQ base b pb s o n l p w h WQ WL (by rw[vV hk,hv]) hvn ?_;show bp Tr (n+1) o l=_;rw[gu,Á hk,hv];rfl
  .cases hv:aS l with
   |some k=>exact Hh base b pb s o n l p w h hlim k hv
   |none=>
    refine vQ base b pb s o n l p w h WQ WL (y4 hk) hv ?_;show bp Tr (n+1) o l=_;rw[gu,Â hk];by_cases kM:aC l=2
    .rw[Á kM,lL hv]
    .rw[Â kM,Â WQ]
     unfold cp Sp.enter;rw[Â WL];rfl
theorem Pk(base b pb:Nat)(s:ByteArray)(o:Nat)(ho:o<=12)(n:Nat):mH 130 base b pb s o n (oI Tr (bp Tr n o)):=by
 have hd:∀l (x:Sm) l1,bp Tr n o l=.ok (x,l1)->l1.length<=l.length:=λl x l1 e=>by have:=jz (A:=Tr) n o l x l1 e;omega
 exact yB base b pb s o n (pR Tr (bp Tr n o)) (λl x l1 e=>vg (A:=Tr) hd l x l1 e) (qh base b pb s o n _ hd (tg base b pb s n o ho))
theorem xY{o:Nat}(ho:o<=12){p:FP}(h:FR base b pb s l (o:Int) p w)(hl:fu p l) :
  Calls prog 130 #[ρ (Y ⟨b,0,M⟩)] w (jA base b pb s o p l w (Sp.pS Tr o l)):=Pk base b pb s o ho (l.length+1) l p w À h hl
def vq(p p':FP)(l:Sp.Bs)(k:Int):Sp.R (Nat×Sm×Sm)->Prop
 |.ok ((rel,x,y),l')=>bV p p' l l'/\(∃j:Nat,k=(j:Int)/\j<p'.ns.length/\Ao p'.ns p.ns.length rel x y j p.ct p'.ct)/\p'.qs=p.qs++(fR x++fR y)
 |.error _=>dD p p' l
def O1(base b pb:Nat)(s:ByteArray)(o:Nat)(p:FP)(l:Sp.Bs)(w:Wd)(r:Sp.R (Nat×Sm×Sm))(e:Ending)(w':Wd):Prop:=
 ∃(k:Int) (p':FP),e=υ (I O k)/\FX base b pb s (left r) (o:Int) p' w'/\FK b pb p p' w w'/\vq p p' l k r
def GD(o:Nat):Sp.R Sm->Sp.R (Nat×Sm×Sm)
 |.ok (x,l1)=>(match eg (Sp.tok l1) with
  |some k=>(match Sp.pS Tr o (Sp.next l1) with
   |.ok (y,l2)=>.ok ((k,x,y),l2)
   |.error e=>.error e)
  |none=>.error (2,l1.length))
 |.error e=>.error e
def TU(A:fE)(o:Nat):Sp.R A.S->Sp.R (Nat×A.S×A.S)
 |.ok (x,l1)=>(match eg (Sp.tok l1) with
  |some k=>(match Sp.pS A o (Sp.next l1) with
   |.ok (y,l2)=>.ok ((k,x,y),l2)
   |.error e=>.error e)
  |none=>Sp.bad 2 l1)
 |.error e=>.error e
theorem My(A:fE)(o:Nat)(l:Sp.Bs):bo A o l=TU A o (Sp.pS A o l):=by
 unfold bo
 rcases Sp.pS A o l with e|⟨x,l1⟩
 .rfl
 .rfl
theorem y9(o:Nat)(l:Sp.Bs):bo Tr o l=GD o (Sp.pS Tr o l):=by
 rw[My]
 rcases Sp.pS Tr o l with e|⟨x,l1⟩
 .rfl
 .unfold TU GD
  simp only;cases eg (Sp.tok l1) with
  |none=>rfl
  |some k=>simp only;rcases Sp.pS Tr o (Sp.next l1) with e|⟨y,l2⟩<;>rfl
theorem mu(h:eg t=Y k):t=[60]/\k=0∨t=[60,61]/\k=1∨t=[61,61]/\k=2∨t=[33,61]/\k=3∨t=[62,61]/\k=4∨t=[62]/\k=5:=by
 unfold eg at h
 repeat' split at h
 all_goals first|(rename_i he;cases h;simp[he])|cases h
theorem Pt{p p1 p3:FP}{k k3:Int}{x:Sm}{n:aK}{v:Value}(hS:Sp.pS Tr o l=.ok (x,l1))(hrel:eg (Sp.tok l1)=Y rel)(ha:n.a=k)(hb:n.b=k3)(hs:n.sign=Sp.tok l1)
  (g1:iQ p p1 l k (.ok (x,l1))) (g3:iQ p1 p3 (Sp.next l1) k3 (Sp.pS Tr o (Sp.next l1)))
  (h5:FX base b pb s (left (Sp.pS Tr o (Sp.next l1))) (o:Int) {p3 with ns:=p3.ns++[n],nv:=v} w') (k5:FK b pb p {p3 with ns:=p3.ns++[n],nv:=v} w w'):
  O1 base b pb s o p l w (bo Tr o l) (υ (I O (p3.ns.length:Nat))) w':=by
 rw[y9,hS];obtain⟨m1,⟨j,AF,Ku,Gn⟩,q1⟩:=g1;have fD:(Sp.next l1).length<l1.length:=aJ (t:=Sp.tok l1) rfl (by rcases mu hrel with⟨e,_⟩|⟨e,_⟩|⟨e,_⟩|⟨e,_⟩|⟨e,_⟩|⟨e,_⟩<;>rw[e]<;>simp);refine⟨_,_,rfl,?_,k5,?_⟩
 .show FX base b pb s (left (match eg (Sp.tok l1) with
   |some k=>(match Sp.pS Tr o (Sp.next l1) with
    |.ok (y,l2)=>.ok ((k,x,y),l2)
    |.error e=>.error e)
   |none=>.error (2,l1.length):Sp.R (Nat×Sm×Sm))) _ _ _
  rw[hrel]
  rcases hq:Sp.pS Tr o (Sp.next l1) with e|⟨y,l2⟩
  .rw[hq]at h5;exact h5
  .rw[hq]at h5;exact h5
 .show vq _ _ _ _ (match eg (Sp.tok l1) with
   |some k=>(match Sp.pS Tr o (Sp.next l1) with
    |.ok (y,l2)=>.ok ((k,x,y),l2)
    |.error e=>.error e)
   |none=>.error (2,l1.length))
  rw[hrel]
  rcases hq:Sp.pS Tr o (Sp.next l1) with e|⟨y,l2⟩
  .rw[hq]at g3
   exact dD.made m1 (dD.node (l1:=Sp.next l1) g3 fD n v)
  .rw[hq]at g3
   obtain⟨m2,⟨j2,i1,i2,i3⟩,q2⟩:=g3;have hlen:=m2.len;have ZJ:=m1.len;have hm:bV p p3 l l2:=(m1.trans (bV.z8 À)).trans m2;refine⟨hm.node n v (by have:=m1.nl;have:=m2.nl;omega),⟨p3.ns.length,rfl,Ä,?_⟩,by show p3.qs=_;rw[q2,q1,Ô]⟩;refine⟨n,j,j2,p1.ct,Ä,by rw[ha,AF],by rw[hb,i1],?_,?_,À,i2,Gn.mono È (λi _ hi=>?_),i3.mono ZJ (λi _ hi=>?_)⟩
   .rw[hs];rcases mu hrel with⟨e,e'⟩|⟨e,e'⟩|⟨e,e'⟩|⟨e,e'⟩|⟨e,e'⟩|⟨e,e'⟩<;>rw[e,e']<;>rfl
   .rcases mu hrel with⟨e,e'⟩|⟨e,e'⟩|⟨e,e'⟩|⟨e,e'⟩|⟨e,e'⟩|⟨e,e'⟩<;>omega
   .show(p3.ns++[n])[i]?=_
    rw[List.getElem?_append_left À];exact m2.at À
   .show(p3.ns++[n])[i]?=_
    rw[List.getElem?_append_left À]
theorem pG{o:Nat}(ho:o<=12){p:FP}(h:FR base b pb s l (o:Int) p w)(hl:fu p l) :
  Calls prog 128 #[ρ (Y ⟨b,0,M⟩)] w (O1 base b pb s o p l w (bo Tr o l)):=by
 have HS:=xY ho h hl
 rcases hS:Sp.pS Tr o l with er|⟨x,l1⟩
 .rw[hS]at HS
  have HE:Hid (bo Tr o l=.error er):=by unfold Hid;rw[y9,hS];rfl
  have Zy:=hid HS;clear HS hS h;go_enter func128,ntmps128;go_wp2_with fail;refine Zy.mono ?_;rintro e w1⟨k,p1,rfl,h1,k1,g1⟩;obtain⟨q,t,c6,hz,ff,c3⟩:=FE.asks (show FE base b pb s er p1 w1 from h1);have H1:Hid (_/\_/\_):=⟨h1,k1,g1⟩;clear h1 k1 g1;go_wp2_with fail;go_ret;rw[HE.out];exact⟨0,p1,rfl,H1.1,H1.2.1,H1.2.2⟩
 .rw[hS]at HS
  have Zy:=hid HS;have HSS:=hid hS;clear HS hS h;cases hrel:eg (Sp.tok l1) with
  |none=>
   have HE:Hid (bo Tr o l=.error (2,l1.length)):=by unfold Hid;rw[y9,HSS.out];simp only[GD,hrel];rfl
   have db:∀t∈[[60],[60,61],[61,61],[33,61],[62,61],[62]],Sp.tok l1≠t:=by
    intro t ht e;rw[e]at hrel;simp at ht
    rcases ht with rfl|rfl|rfl|rfl|rfl|rfl<;>simp[eg]at hrel
   have n1:((⟨(Sp.tok l1).toArray⟩:ByteArray).toList==[60])=false:=by rw[ByteArray.toList_eq];simpa using db [60] Ä
   have n2:((⟨(Sp.tok l1).toArray⟩:ByteArray).toList==[60,61])=false:=by rw[ByteArray.toList_eq];simpa using db [60,61] Ä
   have n3:((⟨(Sp.tok l1).toArray⟩:ByteArray).toList==[61,61])=false:=by rw[ByteArray.toList_eq];simpa using db [61,61] Ä
   have n4:((⟨(Sp.tok l1).toArray⟩:ByteArray).toList==[33,61])=false:=by rw[ByteArray.toList_eq];simpa using db [33,61] Ä
   have n5:((⟨(Sp.tok l1).toArray⟩:ByteArray).toList==[62,61])=false:=by rw[ByteArray.toList_eq];simpa using db [62,61] Ä
   have n6:((⟨(Sp.tok l1).toArray⟩:ByteArray).toList==[62])=false:=by rw[ByteArray.toList_eq];simpa using db [62] Ä
   clear db hrel;go_enter func128,ntmps128;go_wp2_with fail;refine Zy.mono ?_;rintro e w1⟨k,p1,rfl,h1,k1,g1⟩;have fg:FR base b pb s l1 (o:Int) p1 w1:=h1;obtain⟨c6,c3,ea,xP⟩:=fg.asks;have H1:Hid (_/\_/\_):=⟨h1,k1,g1⟩;have HB:Hid (⟨(Sp.tok l1).toArray⟩=(⟨(Sp.tok l1).toArray⟩:ByteArray)):=rfl;clear h1 k1 g1 Zy HSS ea HB;generalize (⟨(Sp.tok l1).toArray⟩:ByteArray)=t at*;go_wp2_with fail;refine(pP fg 2 É 2 rfl).mono ?_;rintro e w2⟨rfl,h2,k2⟩;obtain⟨q,t2,c62,hz,ff,c32⟩:=h2.asks;go_wp2_with fail;go_ret;rw[HE.out];exact⟨0,p1,rfl,h2,H1.2.1.trans k2,dD.tD H1.2.2.1⟩
  |some rel=>
   have aaT:=hid hrel
   rcases mu hrel with⟨ht,_⟩|⟨ht,_⟩|⟨ht,_⟩|⟨ht,_⟩|⟨ht,_⟩|⟨ht,_⟩
   all_goals
    have HT:=hid ht;have fD:=aJ ht Ä;clear hrel;go_enter func128,ntmps128;go_wp2_with fail;refine Zy.mono ?_;rintro e w1⟨k,p1,rfl,h1,k1,g1⟩;have fg:FR base b pb s l1 (o:Int) p1 w1:=h1;obtain⟨c6,c3,ea,xP⟩:=fg.asks;rw[ht]at c3;have HL:Hid (fu p1 (Sp.next l1)):=(g1.1.trans (bV.z8 À)).Gf hl;have H1:Hid (_/\_/\_):=⟨h1,k1,g1⟩;clear h1 k1 g1 ea ht;go_wp2_with fail;refine(ek fg).mono ?_;rintro e w2⟨rfl,h2,k2⟩;go_wp2_with fail;refine(xY ho h2 HL.out).mono ?_;rintro e w3⟨k3,p3,rfl,h3,Ge,g3⟩;have jm:=qJ g3 HL.out;have H3:Hid (_/\_/\_):=⟨h3,Ge,g3⟩;clear h3 Ge g3;go_wp2_with fail;refine(eU H3.1 {kind:=5,a:=k,b:=k3,sign:=_} jm).mono ?_;rintro e w4⟨rfl,v,h4,k4⟩;go_wp2_with fail;go_ret;exact Pt HSS.out aaT.out rfl rfl HT.symm H1.2.2 H3.2.2 h4 (((H1.2.1.trans k2).trans H3.2.1).trans k4)
end
end
section
section
variable{l l1 lc:Sp.Bs}
variable{p pc p':FP}
variable{first last:Int}
def UR(j hi:Nat)(ns:List aK)(d:aK)(ct:Ct)(f:Bl->Bl)(ct1:Ct):Prop:=
 ∀(sJ:List aK) (q:Int) (rest:Bl) (bj:Ct) (lo pw:Nat),lo<=j->hi<=pw->(∀i,j<i->i<hi->sJ[i]?=ns[i]?)->sJ[j]?=Y {d with next:=q}->jZ sJ lo pw rest q ct1 bj->jZ sJ lo pw (f rest) (j:Int) ct bj
def oT(p p':FP)(l:Sp.Bs):Sp.R (Bl->Bl)->Prop
 |.ok (f,l')=>bV p p' l l'/\(∃d,p'.ns[p.ns.length]?=Y d/\d.next=-1/\UR p.ns.length p'.ns.length p'.ns d p.ct f p'.ct)/\∃qf,p'.qs=p.qs++qf/\∀rest,i6 (f rest)=qf++i6 rest
 |.error _=>dD p p' l
def oB(base b pb:Nat)(s:ByteArray)(o:Nat)(p:FP)(l:Sp.Bs)(w:Wd)(r:Sp.R (Bl->Bl))(e:Ending)(w':Wd):Prop:=
 ∃(p':FP),e=υ (I O (p.ns.length:Nat))/\FX base b pb s (left r) (o:Int) p' w'/\FK b pb p p' w w'/\oT p p' l r
def oM(base b pb:Nat)(s:ByteArray)(o n:Nat)(st:Sp.Bs->Sp.R (Bl->Bl)):Prop:=
 ∀(l:Sp.Bs) (p:FP) (w:Wd),l.length<n->FR base b pb s l (o:Int) p w->fu p l->cU l=true->Calls prog 91 #[ρ (Y ⟨b,0,M⟩)] w (oB base b pb s o p l w (st l))
def Lq(fs:List (Bl->Bl))(rest:Bl):Bl:=fs.foldr (λf x=>f x) rest
theorem Qa(fs:List (Bl->Bl)):Lq fs .nil=aO fs:=rfl
theorem uw(fs:List (Bl->Bl))(f:Bl->Bl)(rest:Bl):Lq (fs++[f]) rest=Lq fs (f rest):=by unfold Lq;rw[List.foldr_append];rfl
def o7(p p':FP)(l:Sp.Bs)(k:Int):Sp.R (List (Bl->Bl))->Prop
 |.ok (fs,l')=>bV p p' l l'/\jZ p'.ns p.ns.length p'.ns.length (aO fs) k p.ct p'.ct/\p'.qs=p.qs++i6 (aO fs)
 |.error _=>dD p p' l
def De(base b pb:Nat)(s:ByteArray)(o:Nat)(p:FP)(l:Sp.Bs)(w:Wd)(r:Sp.R (List (Bl->Bl)))(e:Ending)(w':Wd):Prop:=
 ∃(k:Int) (p':FP),e=υ (I O k)/\FX base b pb s (left r) (o:Int) p' w'/\FK b pb p p' w w'/\o7 p p' l k r
def Hc(p pc:FP)(l:Sp.Bs)(first last:Int):Sp.R (List (Bl->Bl))->Prop
 |.error _=>dD p pc l
 | .ok (fs,lc)=>bV p pc l lc/\(∃qf,pc.qs=p.qs ++ qf/\∀rest,i6 (Lq fs rest)=qf ++ i6 rest) /\
   ((fs=[]/\first=-1/\last=-1/\pc.ns.length=p.ns.length/\pc.ct=p.ct) ∨
    (first=(p.ns.length:Int)/\∃(j:Nat) (d:aK),last=(j:Int)/\p.ns.length<=j/\j<pc.ns.length/\pc.ns[j]?=Y d/\d.next=-1 /\
     ∀(sJ:List aK) (q:Int) (rest:Bl) (bj:Ct) (pw:Nat),pc.ns.length<=pw->(∀i,p.ns.length<=i->i<pc.ns.length->i≠j->sJ[i]?=pc.ns[i]?)->sJ[j]?=Y {d with next:=q}->jZ sJ p.ns.length pw rest q pc.ct bj->jZ sJ p.ns.length pw (Lq fs rest) (p.ns.length:Int) p.ct bj))
def yf(st:Sp.Bs->Sp.R (Bl->Bl))(fin:Sp.R (List (Bl->Bl))):Sp.R (List (Bl->Bl))->Prop
 |.ok (fs,l)=>∃m,l.length<m/\fin=dt Tr st m fs l
 |.error e=>fin=.error e
def oC(fs:List (Bl->Bl)):Sp.R (Bl->Bl)->Sp.R (List (Bl->Bl))
 |.ok (f,l)=>.ok (fs++[f],l)
 |.error e=>.error e
theorem GB(A:fE)(st:Sp.Bs->Sp.R A.T)(m:Nat)(fs:List A.T)(l:Sp.Bs)(hb:cU l=false):dt A st (m+1) fs l=.ok (fs,l):=by rw[dt,Â (by rw[hb];simp)]
theorem Fv{st:Sp.Bs->Sp.R (Bl->Bl)}{fin:Sp.R (List (Bl->Bl))}{fs:List (Bl->Bl)}(h:yf st fin (.ok (fs,l)))(hb:cU l=false):fin=.ok (fs,l):=by
 obtain⟨m,hm,e⟩:=h;cases m with
 |zero=>omega
 |succ m=>rw[e];exact GB Tr st m fs l hb
theorem Bt(A:fE)(st:Sp.Bs->Sp.R A.T)(m:Nat)(fs:List A.T)(l:Sp.Bs)(hb:cU l=true):dt A st (m+1) fs l=(match st l with
  |.ok (x,l1)=>dt A st m (fs++[x]) l1
  |.error e=>.error e):=by
 rw[dt,Á hb];rfl
theorem Ny(A:fE)(st:Sp.Bs->Sp.R A.T)(m:Nat)(fs:List A.T)(l:Sp.Bs)(hb:cU l=true){f:A.T}(h:st l=.ok (f,l1)):dt A st (m+1) fs l=dt A st m (fs++[f]) l1:=by rw[Bt A st m fs l hb,h]
theorem Ea(A:fE)(st:Sp.Bs->Sp.R A.T)(m:Nat)(fs:List A.T)(l:Sp.Bs)(hb:cU l=true){e:Nat×Nat}(h:st l=.error e):dt A st (m+1) fs l=.error e:=by rw[Bt A st m fs l hb,h]
theorem Fi{st:Sp.Bs->Sp.R (Bl->Bl)}{fin:Sp.R (List (Bl->Bl))}{fs:List (Bl->Bl)}(h:yf st fin (.ok (fs,l)))(hb:cU l=true)(da:∀l f l1,st l=.ok (f,l1)->l1.length<l.length):yf st fin (oC fs (st l)):=by
 obtain⟨m,hm,e⟩:=h;cases m with
 |zero=>omega
 |succ m=>
  rcases hs:st l with er|⟨f,l1⟩
  .show fin=_
   rw[e];exact Ea Tr st m fs l hb hs
  .have:=da _ _ _ hs
   exact⟨m,À,by rw[e];exact Ny Tr st m fs l hb hs⟩
theorem Gt{fs:List (Bl->Bl)}{r:Sp.R (Bl->Bl)}(h:Hc p pc l first last (.ok (fs,lc)))(hf:first<0)(g:oT pc p' lc r):Hc p p' l (pc.ns.length:Int) (pc.ns.length:Int) (oC fs r):=by
 obtain⟨m1,⟨qf,hq,hn⟩,hc⟩:=h
 rcases hc with⟨rfl,_,_,hlen,XN⟩|⟨h1,_⟩
 .rcases r with e|⟨f,l1⟩
  .exact dD.made m1 g
  .obtain⟨m2,⟨d,hd,hdn,im⟩,qf2,vh,Gb⟩:=g
   refine⟨m1.trans m2,⟨qf++qf2,by rw[vh,hq,Ô],λrest=>?_⟩,.inr ⟨by rw[hlen],pc.ns.length,d,rfl,À,?_,hd,hdn,?_⟩⟩
   .rw[uw]
    have e1:=hn (f rest);rw[e1,Gb,Ô]
   .exact(Í.1 hd).1
   .intro sJ q rest bj pw Kh hag MM hb
    have:=im sJ q rest bj p.ns.length pw À Kh (λi h1 h2=>hag i À h2 À) MM hb;rw[XN,hlen]at this;exact this
 .omega
theorem KE{fs:List (Bl->Bl)}{j:Nat}{dl:aK}{r:Sp.R (Bl->Bl)}(h:Hc p pc l first (j:Int) (.ok (fs,lc)))(hf:¬ first<0)(g:oT pc p' lc r)(Ye:p'.ns[j]?=Y dl) :
  Hc p {p' with ns:=p'.ns.set j {dl with next:=(pc.ns.length:Int)}} l first (pc.ns.length:Int) (oC fs r):=by
 obtain⟨m1,⟨qf,hq,hn⟩,hc⟩:=h
 rcases hc with⟨_,h1,_⟩|⟨h1,j',d,hj,AF,Ku,hd,hdn,xv⟩
 .omega
 .have ej:j'=j:=À
  subst ej
  rcases r with e|⟨f,l1⟩
  .obtain⟨⟨ex,hex⟩,g2⟩:=dD.made m1 g
   refine⟨⟨ex.set (j'-p.ns.length) {dl with next:=(pc.ns.length:Int)},?_⟩,by simpa using g2⟩;show p'.ns.set j' _=_;rw[hex,List.set_append_right _ _ AF]
  .obtain⟨m2,⟨d2,Yk,abm,im⟩,qf2,vh,Gb⟩:=g
   have F3:=(Í.1 Yk).1;have edl:dl=d:=by rw[m2.at Ku,hd]at Ye;exact(Ï Ye).symm
   subst edl;have hm:=m1.trans m2;refine⟨⟨?_,by simpa using hm.nl,hm.ql,hm.pt⟩,⟨qf++qf2,by show p'.qs=_;rw[vh,hq,Ô],λrest=>?_⟩,.inr ⟨h1,pc.ns.length,d2,rfl,by have:=m1.len;omega,by simpa using F3,?_,abm,?_⟩⟩
   .obtain⟨ex,hex⟩:=hm.pre
    refine⟨ex.set (j'-p.ns.length) {dl with next:=(pc.ns.length:Int)},?_⟩;show p'.ns.set j' _=_;rw[hex,List.set_append_right _ _ AF]
   .rw[uw,hn,Gb,Ô]
   .show(p'.ns.set j' _)[pc.ns.length]?=_
    rw[List.getElem?_set_ne À];exact Yk
   .intro sJ q rest bj pw Kh hag MM hb
    have aaU:p'.ns.length<=pw:=by simpa using Kh
    have WC:∀i,p.ns.length<=i->i<p'.ns.length->i≠pc.ns.length->sJ[i]?=(p'.ns.set j' {dl with next:=(pc.ns.length:Int)})[i]?:=λi h1 h2 h3=>hag i h1 (by simpa using h2) h3
    have h2:=im sJ q rest bj p.ns.length pw m1.len aaU (λi h1 h2=>by rw[WC i (by have:=m1.len;omega) h2 À,List.getElem?_set_ne À]) MM hb;have:=xv sJ (pc.ns.length:Int) (f rest) bj pw À (λi h1 h2 h3=>by rw[WC i h1 À À,List.getElem?_set_ne À];exact m2.at h2) (by rw[WC j' AF À À,List.getElem?_set_self À]) h2;rw[uw];exact this
theorem D2{r:Sp.R (List (Bl->Bl))}(h:Hc p pc l first last r):o7 p pc l first r:=by
 rcases r with e|⟨fs,lc⟩
 .exact h
 .obtain⟨m1,⟨qf,hq,hn⟩,hc⟩:=h
  have Tg:pc.qs=p.qs++i6 (aO fs):=by have:=hn .nil;rw[Qa]at this;rw[this,hq];simp[i6]
  rcases hc with⟨rfl,h1,_,_,XN⟩|⟨h1,j,d,_,AF,Ku,hd,hdn,xv⟩
  .exact⟨m1,⟨h1,XN⟩,Tg⟩
  .refine⟨m1,?_,Tg⟩
   have:=xv pc.ns (-1) .nil pc.ct pc.ns.length È (λ_ _ _ _=>rfl) (by rw[hd,<-hdn]) ⟨rfl,rfl⟩;rw[h1];exact this
end
end
section
section
variable{p p1 p3:FP}
variable{l l1 l2:Sp.Bs}
variable{d0 n:aK}
variable{j hi v a rel k:Nat}
variable{ns:List aK}
variable{ct ct1 ct2:Ct}
variable{x y:Sm}
theorem JS(xs:List aK)(d n:aK)(ex:List aK):(xs++[d]++ex).set xs.length n=xs++(n::ex):=by rw[Ô,List.set_append_right _ _ È];simp
theorem Mk{p3:FP}(n:aK)(e1:p1.ns=p.ns++[d0])(eq:p1.qs=p.qs)(qX:In64 p1.ct.1)(m:bV p1 p3 l1 l2)(hl:l1.length<l.length):bV p {p3 with ns:=p3.ns.set p.ns.length n} l l2:=by
 obtain⟨ex,hex⟩:=m.pre;have h1:=m.nl;have h2:=m.ql;rw[e1]at h1;rw[eq]at h2;refine⟨⟨n::ex,?_⟩,?_,?_,λ_=>m.pt qX⟩
 .show p3.ns.set p.ns.length n=_
  rw[hex,e1,JS]
 .simp at h1⊢;omega
 .show p3.qs.length+_<=_;omega
theorem gF{p3:FP}(n:aK)(e1:p1.ns=p.ns++[d0])(m:dD p1 p3 l1)(hl:l1.length<l.length):dD p {p3 with ns:=p3.ns.set p.ns.length n} l:=by
 obtain⟨⟨ex,hex⟩,h1⟩:=m;rw[e1]at h1;refine⟨⟨n::ex,?_⟩,?_⟩
 .show p3.ns.set p.ns.length n=_
  rw[hex,e1,JS]
 .simp at h1⊢;omega
theorem mO{f:Bl->Bl}(e1:p1.ns=p.ns ++ [d0])(eq:p1.qs=p.qs)(qX:In64 p1.ct.1)(m:bV p1 p3 l1 l2)(hl:l1.length<l.length)(hn:n.next=-1)
  (im:UR p.ns.length p3.ns.length p3.ns n p.ct f p3.ct) (qf:List Int) (hq:p3.qs=p.qs++qf) (hqf:∀rest,i6 (f rest)=qf++i6 rest):oT p {p3 with ns:=p3.ns.set p.ns.length n} l (.ok (f,l2)):=by
 have hlen:p.ns.length<p3.ns.length:=by have:=m.len;rw[e1]at this;simp at this;omega
 refine⟨Mk n e1 eq qX m hl,⟨n,List.getElem?_set_self hlen,hn,?_⟩,qf,hq,hqf⟩;intro sJ q rest bj lo pw h1 h2 h3 h4 h5;have Gq:p3.ns.length<=pw:=by simpa using h2
 refine im sJ q rest bj lo pw h1 Gq (λi a b=>?_) h4 h5;rw[h3 i a (by simpa using b)];show(p3.ns.set _ _)[i]?=_;rw[List.getElem?_set_ne À]
theorem Dg{v:Nat}(hj:j<hi)(h1:n.aA=ct.1)(h2:n.kind=7)(h3:n.n=(v:Int))(h4:v<8):UR j hi ns n ct (.read v) (Sp.aD ct):=by intro sJ q rest bj lo pw a1 a2 a3 a4 a5;exact⟨j,_,rfl,a1,À,a4,h1,h2,h3,h4,a5⟩
theorem vf{a:Nat}{v:Nat}(hj:j<hi)(h1:n.aA=ct.1)(h2:n.kind=6)(h3:n.n=(v:Int))(h4:v<8)(h5:n.a=(a:Int))(h6:a<hi)(h7:rF ns (j+1) x a (Sp.aD ct) ct1):UR j hi ns n ct (.assign v x) ct1:=by intro sJ q rest bj lo pw a1 a2 a3 a4 a5;exact⟨j,a,_,ct1,rfl,a1,À,a4,h1,h2,h3,h4,h5,À,h7.mono À (λi b1 b2=>a3 i À À),a5⟩
theorem vd{a:Nat}(hj:j<hi)(h1:n.aA=ct.1)(h2:n.kind=8)(h3:n.site=ct.2)(h5:n.a=(a:Int))(h6:a<hi)(h7:Ao ns (j+1) rel x y a (Sp.aL (Sp.aD ct)) ct1):UR j hi ns n ct (.assert rel x y) ct1:=by intro sJ q rest bj lo pw a1 a2 a3 a4 a5;exact⟨j,a,_,ct1,rfl,a1,À,a4,h1,h2,h3,h5,À,h7.mono À (λi b1 b2=>a3 i À À),a5⟩
theorem C3{a:Nat}{xs:Bl}(hj:j<hi)(h1:n.aA=ct.1)(h2:n.kind=10)(h5:n.a=(a:Int))(h6:a<hi)(h7:Ao ns (j+1) rel x y a (Sp.aD ct) ct1)(h8:jZ ns (j+1) hi xs n.b ct1 ct2):UR j hi ns n ct (.loop rel x y xs) ct2:=by intro sJ q rest bj lo pw a1 a2 a3 a4 a5;exact⟨j,a,_,ct1,ct2,rfl,a1,À,a4,h1,h2,h5,À,h7.mono À (λi b1 b2=>a3 i À À),h8.mono À a2 (λi b1 b2=>a3 i À b2),a5⟩
theorem C2{a:Nat}{nL:Ct}{xs ys:Bl}{els:Bool}(hj:j<hi)(h1:n.aA=ct.1)(h2:n.kind=9)(h3:n.els=els)(h5:n.a=(a:Int))(h6:a<hi)(h7:Ao ns (j+1) rel x y a (Sp.aD ct) ct1)(h8:jZ ns (j+1) hi xs n.b ct1 ct2)(h9:jZ ns (j+1) hi ys n.c ct2 nL)(gW:els=false->ys=.nil):UR j hi ns n ct (.ite rel x y xs els ys) nL:=by intro sJ q rest bj lo pw a1 a2 a3 a4 a5;exact⟨j,a,_,ct1,ct2,nL,rfl,a1,À,a4,h1,h2,h3,h5,À,h7.mono À (λi b1 b2=>a3 i À À),h8.mono À a2 (λi b1 b2=>a3 i À b2),h9.mono À a2 (λi b1 b2=>a3 i À b2),gW,a5⟩
theorem Ld(l:Sp.Bs):left (gX Tr l)=(left (dN (Sp.next l))).bind (Sp.take [59]):=by
 unfold gX;cases dN (Sp.next l) with
 |error e=>rfl
 |ok kl=>simp only[left,Except.bind];cases Sp.take [59] kl.2<;>rfl
theorem vI(h:aS l=Y k):k<8:=by obtain⟨c,_,_,h1,h2,h3⟩:=dY h;omega
theorem fW(n:Int):In64 (RowKit.wrap64 n):=by unfold In64 RowKit.wrap64;omega
theorem Oo{k:Int}(e1:p1.ns=p.ns ++ [d0])(eq:p1.qs=p.qs)(ec:p1.ct=Sp.aD p.ct)(hl:(Sp.next l).length<l.length)(hk:∀kk,aS (Sp.next l)=Y kk->k=(kk:Int))(n1:n.next=-1)(n2:n.aA=p.ct.1)(n3:n.kind=7)(n4:n.n=k) :
  oT p {p1 with ns:=p1.ns.set p.ns.length n} l (gX Tr l):=by
 have hb:dD p {p1 with ns:=p1.ns.set p.ns.length n} l:=gF n e1 (dD.refl p1 (Sp.next l)) hl;unfold gX;cases hv:aS (Sp.next l) with
 |none=>rw[lL hv];exact hb
 |some kk=>
  rw[jC hv];simp only;cases ht:Sp.take [59] (Sp.next (Sp.next l)) with
  |error e=>exact hb
  |ok l2=>
   obtain⟨_,h2⟩:=cd ht;have Dz:l2.length<=(Sp.next l).length:=by rw[h2];exact Nat.le_trans (cr _) (cr _)
   refine mO (p3:=p1) (f:=.read kk) e1 eq (by rw[ec];exact fW _) (bV.z8 Dz) hl n1 ?_ [] (by rw[eq];simp) (λ_=>rfl);rw[ec];exact Dg (by rw[e1];simp) n2 n3 (by rw[n4,hk kk hv]) (vI hv)
theorem FX.cast{base b pb:Nat}{s:ByteArray}{r r':Except (Nat×Nat) Sp.Bs}{o:Int}{w:Wd}(e:r=r')(h:FX base b pb s r o p w):FX base b pb s r' o p w:=by rw[<-e];exact h
end
end
section
section
variable{o:Nat}
variable{p p1 p3:FP}
variable{l:Sp.Bs}
variable{d0 n:aK}
variable{k ka kc kb:Int}
theorem GI(e1:p1.ns=p.ns ++ [d0])(eq:p1.qs=p.qs)(ec:p1.ct=Sp.aD p.ct)(hk:∀kk,aS l=Y kk->k=(kk:Int))(hb:aS l≠M)
  (g:∀l2,(left (dN l)).bind (Sp.take [61])=.ok l2->iQ p1 p3 l2 ka (Sp.pS Tr o l2)) (he:∀e,(left (dN l)).bind (Sp.take [61])=.error e->p3=p1)
  (n1:n.next=-1) (n2:n.aA=p.ct.1) (n3:n.kind=6) (n4:n.n=k) (n5:n.a=ka):
  oT p {p3 with ns:=p3.ns.set p.ns.length n} l (cC Tr o l):=by
 cases hv:aS l with
 |none=>exact absurd hv hb
 |some kk=>
  have fD:(Sp.next l).length<l.length:=gl (dj (.inl (fL hv)));unfold cC;rw[jC hv]at g he⊢;simp only[left,Except.bind]at g he⊢;cases ht:Sp.take [61] (Sp.next l) with
  |error e=>have:=he e ht;subst this;exact gF n e1 (dD.refl _ (Sp.next l)) fD
  |ok l2=>
   obtain⟨_,h2⟩:=cd ht;have Dz:l2.length<=(Sp.next l).length:=by rw[h2];exact cr _
   have g1:=g l2 ht;simp only
   rcases hS:Sp.pS Tr o l2 with e|⟨x,l3⟩
   .rw[hS]at g1
    exact gF (l1:=l2) n e1 g1 À
   .rw[hS]at g1
    obtain⟨m1,⟨j,AF,Ku,Gn⟩,q1⟩:=g1;simp only;cases ht2:Sp.take [59] l3 with
    |error e=>exact gF (l1:=l2) n e1 (dD.tD m1) À
    |ok l4=>
     obtain⟨_,h4⟩:=cd ht2;refine mO (p3:=p3) (f:=.assign kk x) e1 eq (by rw[ec];exact fW _) (m1.trans (bV.z8 (l':=l4) (by rw[h4];exact cr _))) À n1 ?_ (fR x) (by rw[q1,eq]) (λ_=>rfl);refine vf (a:=j) (by have:=m1.len;rw[e1]at this;simp at this;omega) n2 n3 (by rw[n4,hk kk hv]) (vI hv) (by rw[n5,AF]) Ku ?_;rw[<-ec];have e':p1.ns.length=p.ns.length+1:=by rw[e1];simp
     rw[<-e'];exact Gn
theorem IT(e1:p1.ns=p.ns ++ [d0])(eq:p1.qs=p.qs)(ec:p1.ct=Sp.aL (Sp.aD p.ct))(fD:(Sp.next l).length<l.length)
  (g1:vq p1 p3 (Sp.next l) kc (bo Tr o (Sp.next l)))
  (n1:n.next=-1) (n2:n.aA=p.ct.1) (n3:n.kind=8) (n4:n.site=p.ct.2) (n5:n.a=kc):
  oT p {p3 with ns:=p3.ns.set p.ns.length n} l (de Tr o l):=by
 unfold de
 rcases hC:bo Tr o (Sp.next l) with e|⟨⟨rel,x,y⟩,l1⟩
 .rw[hC]at g1
  exact gF (l1:=Sp.next l) n e1 g1 fD
 .rw[hC]at g1
  obtain⟨m1,⟨j,AF,Ku,Gn⟩,q1⟩:=g1;simp only;cases ht2:Sp.take [59] l1 with
  |error e=>exact gF (l1:=Sp.next l) n e1 (dD.tD m1) fD
  |ok l4=>
   obtain⟨_,h4⟩:=cd ht2;refine mO (p3:=p3) (f:=.assert rel x y) e1 eq (by rw[ec];exact fW _) (m1.trans (bV.z8 (l':=l4) (by rw[h4];exact cr _))) fD n1 ?_ (fR x++fR y) (by rw[q1,eq]) (λ_=>rfl);refine vd (a:=j) (by have:=m1.len;rw[e1]at this;simp at this;omega) n2 n3 n4 (by rw[n5,AF]) Ku ?_;rw[<-ec];have e':p1.ns.length=p.ns.length+1:=by rw[e1];simp
   rw[<-e'];exact Gn
def gA(st:Sp.Bs->Sp.R (Bl->Bl))(o:Nat)(l:Sp.Bs):Except (Nat×Nat) Sp.Bs:=(left (bo Tr o (Sp.next l))).bind λl=>left (bI Tr st o l)
theorem L3{st:Sp.Bs->Sp.R (Bl->Bl)}(hb:∀l,aR Tr st o l=bI Tr st o l){p4:FP}(e1:p1.ns=p.ns ++ [d0])(eq:p1.qs=p.qs)(ec:p1.ct=Sp.aD p.ct)(fD:(Sp.next l).length<l.length)
  (g1:vq p1 p3 (Sp.next l) kc (bo Tr o (Sp.next l))) (g2:∀l2,left (bo Tr o (Sp.next l))=.ok l2->o7 p3 p4 l2 kb (bI Tr st o l2)) (he:∀e,left (bo Tr o (Sp.next l))=.error e->p4=p3)
  (n1:n.next=-1) (n2:n.aA=p.ct.1) (n3:n.kind=10) (n5:n.a=kc) (n6:n.b=kb):
  oT p {p4 with ns:=p4.ns.set p.ns.length n} l (eF Tr (λl=>aR Tr st o l) o l):=by
 unfold eF
 rcases hC:bo Tr o (Sp.next l) with e|⟨⟨rel,x,y⟩,l1⟩
 .rw[hC]at g1 he
  have:=he e rfl;subst this;exact gF (l1:=Sp.next l) n e1 g1 fD
 .rw[hC]at g1 g2
  obtain⟨m1,⟨j,AF,Ku,Gn⟩,q1⟩:=g1;have g3:=g2 l1 rfl;simp only;rw[hb]
  rcases hB:bI Tr st o l1 with e|⟨fs,l2⟩
  .rw[hB]at g3
   exact gF (l1:=Sp.next l) n e1 (dD.made m1 g3) fD
  .rw[hB]at g3
   obtain⟨m2,sL,q2⟩:=g3;have e':p1.ns.length=p.ns.length+1:=by rw[e1];simp
   have xS:=m1.len;have Dz:=m2.len;refine mO (p3:=p4) (f:=.loop rel x y (aO fs)) e1 eq (by rw[ec];exact fW _) (m1.trans m2) fD n1 ?_ (fR x++fR y++i6 (aO fs)) (by rw[q2,q1,eq,Ô]) (λ_=>by simp[i6]);refine C3 (a:=j) (ct1:=p3.ct) À n2 n3 (by rw[n5,AF]) À ?_ ?_
   .rw[<-ec,<-e']
    exact Gn.mono È (λi _ hi=>m2.at À)
   .rw[n6]
    exact sL.mono À È (λ_ _ _=>rfl)
end
end
section
section
variable{p p' p1 p3 p4:FP}
variable{l l1 l2:Sp.Bs}
variable{k kc kb:Int}
variable{d0 n:aK}
variable{base b pb o:Nat}
variable{s:ByteArray}
theorem gj{α:Type}(a:α):Hid (a=a):=rfl
theorem CC(h:dD p p' l):∃ex,p'.ns=p.ns++ex:=h.1
theorem YE{r:Sp.R Sm}(h:iQ p p' l k r):∃ex,p'.ns=p.ns++ex:=by
 rcases r with e|⟨x,l1⟩
 .exact CC h
 .exact h.1.pre
theorem OX{r:Sp.R (Nat×Sm×Sm)}(h:vq p p' l k r):∃ex,p'.ns=p.ns++ex:=by
 rcases r with e|⟨⟨a,x,y⟩,l1⟩
 .exact CC h
 .exact h.1.pre
theorem Py{r:Sp.R (List (Bl->Bl))}(h:o7 p p' l k r):∃ex,p'.ns=p.ns++ex:=by
 rcases r with e|⟨fs,l1⟩
 .exact CC h
 .exact h.1.pre
theorem zm{r:Except (Nat×Nat) Sp.Bs}(g:∀l,r=.ok l->∃ex,p'.ns=p.ns++ex)(he:∀e,r=.error e->p'=p):∃ex,p'.ns=p.ns++ex:=by
 cases r with
 |ok l=>exact g l rfl
 |error e=>exact⟨[],by rw[he e rfl];simp⟩
theorem uI{p2:FP}(h:∃ex,p1.ns=p.ns++ex)(k:∃ex,p2.ns=p1.ns++ex):∃ex,p2.ns=p.ns++ex:=by obtain⟨a,ha⟩:=h;obtain⟨c,hc⟩:=k;exact⟨a++c,by rw[hc,ha,Ô]⟩
theorem mT(e1:p1.ns=p.ns++[d0])(h:∃ex,p3.ns=p1.ns++ex):p3.ns[p.ns.length]?=Y d0:=by obtain⟨ex,hex⟩:=h;rw[hex,e1];simp
theorem qP(h:fu p l)(e1:p1.ns=p.ns++[d0])(eq:p1.qs=p.qs)(hp:In64 p1.ct.1)(hl:l1.length<l.length):fu p1 l1:=by
 obtain⟨h1,h2,_⟩:=h;refine⟨?_,?_,hp⟩
 .rw[e1];simp;omega
 .rw[eq];omega
theorem B8(o:Nat)(l:Sp.Bs):((((left (dN l)).bind (Sp.take [61])).bind λl=>@left Sm (Sp.pS Tr o l)).bind (Sp.take [59]))=@left (Bl->Bl) (cC Tr o l):=by
 unfold cC;cases dN l with
 |error e=>rfl
 |ok kl=>
  simp only[left,Except.bind];cases Sp.take [61] kl.2 with
  |error e=>rfl
  |ok l2=>
   simp only
   rcases Sp.pS Tr o l2 with e|⟨x,l3⟩
   .rfl
   .simp only
    cases Sp.take [59] l3<;>rfl
theorem Cz(o:Nat)(l:Sp.Bs):((@left (Nat×Sm×Sm) (bo Tr o (Sp.next l))).bind (Sp.take [59]))=@left (Bl->Bl) (de Tr o l):=by
 unfold de
 rcases bo Tr o (Sp.next l) with e|⟨⟨k,x,y⟩,l1⟩
 .rfl
 .simp only[left,Except.bind]
  cases Sp.take [59] l1<;>rfl
theorem Bm(st:Sp.Bs->Sp.R (Bl->Bl))(o:Nat)(l:Sp.Bs):((@left (Nat×Sm×Sm) (bo Tr o (Sp.next l))).bind λl=>@left (List (Bl->Bl)) (bI Tr st o l))=gA st o l:=by
 unfold gA
 rcases bo Tr o (Sp.next l) with e|⟨⟨k,x,y⟩,l1⟩
 .rfl
 .simp only[left,Except.bind]
  rcases bI Tr st o l1 with e|⟨fs,l2⟩<;>rfl
theorem Fe(st:Sp.Bs->Sp.R (Bl->Bl))(o:Nat)(l:Sp.Bs)(hb:∀l,aR Tr st o l=bI Tr st o l):((@left (Nat×Sm×Sm) (bo Tr o (Sp.next l))).bind λl=>@left (List (Bl->Bl)) (bI Tr st o l))=@left (Bl->Bl) (eF Tr (λl=>aR Tr st o l) o l):=by
 unfold eF
 rcases bo Tr o (Sp.next l) with e|⟨⟨k,x,y⟩,l1⟩
 .rfl
 .simp only[left,Except.bind]
  rw[hb]
  rcases bI Tr st o l1 with e|⟨fs,l2⟩<;>rfl
theorem iI.YD{N:Nat}{r r':Except (Nat×Nat) Sp.Bs}{o:Int}{p0:FP}{w0 w:Wd}(e:r=r')(h:iI base b pb N s r o p0 p w0 n w):iI base b pb N s r' o p0 p w0 n w:=by rw[<-e];exact h
theorem mQ{o:Nat}{w w':Wd}{r:Sp.R (Bl->Bl)}{q:Except (Nat×Nat) Sp.Bs}(e:q=left r)(h:FX base b pb s q (o:Int) p' w')(k:FK b pb p p' w w')(g:oT p p' l r):oB base b pb s o p l w r (υ (I O (p.ns.length:Nat))) w':=⟨p',rfl,FX.cast e h,k,g⟩
theorem xJ(A:fE)(st:Sp.Bs->Sp.R A.T)(o:Nat)(l:Sp.Bs)(hb:∀l,aR A st o l=bI A st o l):Sp.Ð A (λl=>aR A st o l) o l=(match bo A o (Sp.next l) with
 |.ok ((k,x,y),l1)=>(match bI A st o l1 with
  | .ok (xs,l2)=>if Sp.tok l2=lI then(match bI A st o (Sp.next l2) with
    |.ok (ys,l3)=>.ok (A.ite k x y xs (Y ys),l3)
    |.error e=>.error e) else .ok (A.ite k x y xs M,l2)
  |.error e=>.error e)
 |.error e=>.error e):=by
 unfold Sp.Ð;simp only[hb]
 rcases bo A o (Sp.next l) with e|⟨⟨k,x,y⟩,l1⟩
 .rfl
 .simp only
  rcases bI A st o l1 with e|⟨xs,l2⟩
  .rfl
  .simp only
   by_cases he:Sp.tok l2=lI
   .rw[Á he,Á he]
    rcases bI A st o (Sp.next l2) with e|⟨ys,l3⟩<;>rfl
   .rw[Â he,Â he]
def YA(st:Sp.Bs->Sp.R (Bl->Bl))(o:Nat)(l:Sp.Bs):Except (Nat×Nat) Sp.Bs:=(gA st o l).bind λl2=>if Sp.tok l2=lI then left (bI Tr st o (Sp.next l2)) else .ok l2
theorem Dh(st:Sp.Bs->Sp.R (Bl->Bl))(o:Nat)(l:Sp.Bs)(hb:∀l,aR Tr st o l=bI Tr st o l):left (Sp.Ð Tr (λl=>aR Tr st o l) o l)=YA st o l:=by
 rw[xJ Tr st o l hb];unfold YA gA
 rcases bo Tr o (Sp.next l) with e|⟨⟨k,x,y⟩,l1⟩
 .rfl
 .simp only[left,Except.bind]
  rcases bI Tr st o l1 with e|⟨fs,l2⟩
  .rfl
  .simp only
   by_cases he:Sp.tok l2=lI
   .rw[Á he,Á he]
    rcases bI Tr st o (Sp.next l2) with e|⟨ys,l3⟩<;>rfl
   .rw[Â he,Â he]
theorem Ec{st:Sp.Bs->Sp.R (Bl->Bl)}(hb:∀l,aR Tr st o l=bI Tr st o l){er:Nat×Nat}(h:gA st o l=.error er):.error er=@left (Bl->Bl) (Sp.Ð Tr (λl=>aR Tr st o l) o l):=by have:=Dh st o l hb;unfold YA at this;rw[h]at this;exact this.symm
theorem Cy{st:Sp.Bs->Sp.R (Bl->Bl)}(hb:∀l,aR Tr st o l=bI Tr st o l)(h:gA st o l=.ok l2)(he:Sp.tok l2≠lI):.ok l2=@left (Bl->Bl) (Sp.Ð Tr (λl=>aR Tr st o l) o l):=by have:=Dh st o l hb;unfold YA at this;rw[h]at this;simp only[Except.bind]at this;rw[Â he]at this;exact this.symm
theorem BY{st:Sp.Bs->Sp.R (Bl->Bl)}(hb:∀l,aR Tr st o l=bI Tr st o l)(h:gA st o l=.ok l2)(he:Sp.tok l2=lI):((Except.ok (Sp.next l2):Except (Nat×Nat) Sp.Bs).bind λl=>@left (List (Bl->Bl)) (bI Tr st o l))=@left (Bl->Bl) (Sp.Ð Tr (λl=>aR Tr st o l) o l):=by have:=Dh st o l hb;unfold YA at this;rw[h]at this;simp only[Except.bind]at this;rw[Á he]at this;exact this.symm
theorem Hj{st:Sp.Bs->Sp.R (Bl->Bl)}(hb:∀l,aR Tr st o l=bI Tr st o l)(e1:p1.ns=p.ns ++ [d0])(fD:(Sp.next l).length<l.length)
  (g1:vq p1 p3 (Sp.next l) kc (bo Tr o (Sp.next l))) (g2:∀l2,left (bo Tr o (Sp.next l))=.ok l2->o7 p3 p4 l2 kb (bI Tr st o l2)) (he:∀e,left (bo Tr o (Sp.next l))=.error e->p4=p3) {er:Nat×Nat} (FY:gA st o l=.error er):
  oT p {p4 with ns:=p4.ns.set p.ns.length n} l (Sp.Ð Tr (λl=>aR Tr st o l) o l):=by
 rw[xJ Tr st o l hb];unfold gA at FY
 rcases hC:bo Tr o (Sp.next l) with e|⟨⟨rel,x,y⟩,l1⟩
 .rw[hC]at g1 he
  have:=he e rfl;subst this;exact gF (l1:=Sp.next l) n e1 g1 fD
 .rw[hC]at g1 g2 FY
  obtain⟨m1,⟨j,AF,Ku,Gn⟩,q1⟩:=g1;have g3:=g2 l1 rfl;simp only
  rcases hB:bI Tr st o l1 with e|⟨fs,l2⟩
  .rw[hB]at g3
   exact gF (l1:=Sp.next l) n e1 (dD.made m1 g3) fD
  .simp only[left,Except.bind]at FY
   rw[hB]at FY;cases FY
theorem Fs{st:Sp.Bs->Sp.R (Bl->Bl)}(hb:∀l,aR Tr st o l=bI Tr st o l)(e1:p1.ns=p.ns ++ [d0])(eq:p1.qs=p.qs)(ec:p1.ct=Sp.aD p.ct)(fD:(Sp.next l).length<l.length)
  (g1:vq p1 p3 (Sp.next l) kc (bo Tr o (Sp.next l))) (g2:∀l2,left (bo Tr o (Sp.next l))=.ok l2->o7 p3 p4 l2 kb (bI Tr st o l2))
  {l2:Sp.Bs} (rH:gA st o l=.ok l2) (db:Sp.tok l2≠lI)
  (n1:n.next=-1) (n2:n.aA=p.ct.1) (n3:n.kind=9) (n5:n.a=kc) (n6:n.b=kb) (n7:n.c=-1) (n8:n.els=false):
  oT p {p4 with ns:=p4.ns.set p.ns.length n} l (Sp.Ð Tr (λl=>aR Tr st o l) o l):=by
 rw[xJ Tr st o l hb];unfold gA at rH
 rcases hC:bo Tr o (Sp.next l) with e|⟨⟨rel,x,y⟩,l1⟩
 .rw[hC]at rH;cases rH
 .rw[hC]at g1 g2 rH
  obtain⟨m1,⟨j,AF,Ku,Gn⟩,q1⟩:=g1;have g3:=g2 l1 rfl;simp only[left,Except.bind]at rH;simp only
  rcases hB:bI Tr st o l1 with e|⟨fs,UB⟩
  .rw[hB]at rH;cases rH
  .rw[hB]at g3 rH
   have:UB=l2:=by simpa using rH
   subst this;obtain⟨m2,sL,q2⟩:=g3;have e':p1.ns.length=p.ns.length+1:=by rw[e1];simp
   have xS:=m1.len;have Dz:=m2.len;simp only;rw[Â db];refine mO (p3:=p4) (f:=.ite rel x y (aO fs) false .nil) e1 eq (by rw[ec];exact fW _) (m1.trans m2) fD n1 ?_ (fR x++fR y++i6 (aO fs)) (by rw[q2,q1,eq,Ô]) (λ_=>by simp[i6]);refine C2 (a:=j) (ct1:=p3.ct) (ct2:=p4.ct) À n2 n3 n8 (by rw[n5,AF]) À ?_ ?_ ⟨n7,rfl⟩ (λ_=>rfl)
   .rw[<-ec,<-e']
    exact Gn.mono È (λi _ hi=>m2.at À)
   .rw[n6]
    exact sL.mono À È (λ_ _ _=>rfl)
theorem Ev{st:Sp.Bs->Sp.R (Bl->Bl)}(hb:∀l,aR Tr st o l=bI Tr st o l){p5:FP}{ke:Int}(e1:p1.ns=p.ns ++ [d0])(eq:p1.qs=p.qs)(ec:p1.ct=Sp.aD p.ct)(fD:(Sp.next l).length<l.length)
  (g1:vq p1 p3 (Sp.next l) kc (bo Tr o (Sp.next l))) (g2:∀l2,left (bo Tr o (Sp.next l))=.ok l2->o7 p3 p4 l2 kb (bI Tr st o l2))
  {l2:Sp.Bs} (rH:gA st o l=.ok l2) (he:Sp.tok l2=lI) (g4:o7 p4 p5 (Sp.next l2) ke (bI Tr st o (Sp.next l2)))
  (n1:n.next=-1) (n2:n.aA=p.ct.1) (n3:n.kind=9) (n5:n.a=kc) (n6:n.b=kb) (n7:n.c=ke) (n8:n.els=true):
  oT p {p5 with ns:=p5.ns.set p.ns.length n} l (Sp.Ð Tr (λl=>aR Tr st o l) o l):=by
 rw[xJ Tr st o l hb];unfold gA at rH
 rcases hC:bo Tr o (Sp.next l) with e|⟨⟨rel,x,y⟩,l1⟩
 .rw[hC]at rH;cases rH
 .rw[hC]at g1 g2 rH
  obtain⟨m1,⟨j,AF,Ku,Gn⟩,q1⟩:=g1;have g3:=g2 l1 rfl;simp only[left,Except.bind]at rH;simp only
  rcases hB:bI Tr st o l1 with e|⟨fs,UB⟩
  .rw[hB]at rH;cases rH
  .rw[hB]at g3 rH
   have:UB=l2:=by simpa using rH
   subst this;obtain⟨m2,sL,q2⟩:=g3;have e':p1.ns.length=p.ns.length+1:=by rw[e1];simp
   have xS:=m1.len;have Dz:=m2.len;have me:bV p4 p4 UB (Sp.next UB):=bV.z8 (cr _);simp only;rw[Á he]
   rcases hB2:bI Tr st o (Sp.next UB) with e|⟨ys,l3⟩
   .rw[hB2]at g4
    exact gF (l1:=Sp.next l) n e1 (dD.made ((m1.trans m2).trans me) g4) fD
   .rw[hB2]at g4
    obtain⟨m4,aa5,q4⟩:=g4;have xP:=m4.len;simp only;refine mO (p3:=p5) (f:=.ite rel x y (aO fs) true (aO ys)) e1 eq (by rw[ec];exact fW _) (((m1.trans m2).trans me).trans m4) fD n1 ?_ (fR x++fR y++i6 (aO fs)++i6 (aO ys)) (by rw[q4,q2,q1,eq];simp only[Ô]) (λ_=>by simp[i6]);refine C2 (a:=j) (ct1:=p3.ct) (ct2:=p4.ct) À n2 n3 n8 (by rw[n5,AF]) À ?_ ?_ ?_ (λe=>nomatch e)
    .rw[<-ec,<-e']
     exact Gn.mono È (λi _ hi=>by rw[m4.at À,m2.at À])
    .rw[n6]
     exact sL.mono À À (λi _ hi=>m4.at À)
    .rw[n7]
     exact aa5.mono À È (λ_ _ _=>rfl)
end
end
section
theorem FR.AO{base b pb:Nat}{s:ByteArray}{l:Sp.Bs}{o:Int}{p:FP}{w:Wd}(h:FX base b pb s (.ok l) o p w):FR base b pb s l o p w:=h
theorem Eb(base b pb:Nat)(s:ByteArray)(o:Nat)(l:Sp.Bs)(p:FP)(w:Wd)(h:FR base b pb s l (o:Int) p w)(hlim:fu p l)(ht:Sp.tok l=vW) :
  Calls prog 91 #[ρ (Y ⟨b,0,M⟩)] w (oB base b pb s o p l w (gX Tr l)):=by
 obtain⟨c6,c3,ea,xP⟩:=h.asks;have c4:=cell_of h.aV 4 (v:=ρ (Y ⟨pb,0,M⟩)) rfl;have d2:=cell_of h.prog.aV 2 (v:=I O p.ct.1) rfl;have HT:=hid ht;have jX:Hid ((Sp.next l).length<l.length):=aJ ht É;have nO:p.ns.length+1<=1000000:=by have:=hlim.1;omega
 clear ea ht;go_enter func91,ntmps91;go_wp2_with fail;refine(eU (r:=.ok l) h {aA:=p.ct.1,next:=-1,c:=-1} nO).mono ?_;rintro e w1⟨rfl,v,h1,k1⟩;have o8:FR base b pb s l (o:Int) _ w1:=h1;have c4:=cell_of o8.aV 4 (v:=ρ (Y ⟨pb,0,M⟩)) rfl;have d2:=cell_of o8.prog.aV 2 (v:=I O p.ct.1) rfl;have f2:=ay o8.prog.aV 2;go_wp2_with fail
 go_cut [] from 6 (λwc=>wc=(w1.setCell ⟨pb,2,M⟩ (I O (RowKit.wrap64 (p.ct.1+1)))).drew)
 case first=>
  go_region_with (fail)
  all_goals
   go_wp2_with fail;go_meet;rw[IntWalk.i64_left]
 case rest=>
  obtain⟨jW,gN⟩:=FX.jU (r:=.ok l) (p':={p with ns:=p.ns++[{aA:=p.ct.1,next:=-1,c:=-1}],nv:=v,ct:=Sp.aD p.ct}) h1 2 (I O (RowKit.wrap64 (p.ct.1+1))) (mX h1.prog.aV _) rfl rfl rfl rfl;have hx:FX base b pb s (.ok l) (o:Int) {p with ns:=p.ns++[{aA:=p.ct.1,next:=-1,c:=-1}],nv:=v,ct:=Sp.aD p.ct} wc:=by rw[hcut];exact jW.drew
  have hk:FK b pb p {p with ns:=p.ns++[{aA:=p.ct.1,next:=-1,c:=-1}],nv:=v,ct:=Sp.aD p.ct} w wc:=by rw[hcut];exact k1.trans gN.drew
  clear hcut jW gN h1 k1 o8 c4 d2 f2 c3 c6;have fg:FR base b pb s l (o:Int) _ wc:=hx;have c4:=cell_of fg.aV 4 (v:=ρ (Y ⟨pb,0,M⟩)) rfl;have d2:=cell_of fg.prog.aV 2 (v:=I O (RowKit.wrap64 (p.ct.1+1))) rfl;have c3:=cell_of fg.aV 3 (v:=χ ⟨(Sp.tok l).toArray⟩) rfl;rw[HT.out]at c3;have qX:RowKit.wrap64 (RowKit.wrap64 (p.ct.1+1)-1)=p.ct.1:=by obtain⟨_,_,a1,a2⟩:=hlim;unfold RowKit.wrap64;omega
  have zX:b<wc.heap.size:=ah fg.aV;have Te:pb<wc.heap.size:=ah fg.prog.aV;have M0:Hid (iI base b pb wc.heap.size s _ _ _ _ _ _ _):=iI.start {kind:=7,c:=-1,next:=-1,aA:=p.ct.1} hx hk;clear hx hk;go_wp2_with fail;refine(ek (FR.AO M0.fx)).mono ?_;rintro e w2⟨rfl,h2,k2⟩;have M1:=M0.call (r':=.ok (Sp.next l)) h2 k2;go_wp2_with fail;refine(Fx h2).mono ?_;rintro e w3⟨k,rfl,h3,k3,Q7⟩;have HN3:=hid Q7;clear Q7;have M2:=M1.call h3 k3;obtain⟨e4,f4⟩:=M2.box.cell 4 rfl;have M3:=hid (M2.set 4 (I O k) (n':={kind:=7,c:=-1,next:=-1,aA:=p.ct.1,n:=k}) rfl);clear M1 M2 M0 h2 k2 h3 k3;go_wp2_with fail;refine(tF M3.fx [59]).mono ?_;rintro e w4⟨rfl,h4,k4⟩;have M4:=M3.call h4 k4;obtain⟨g,cap,hv,nH,hmax,lX,hj,a4,a0,⟨n0,n1,n2,n3,n4,n5,n6,n7,n8,n9⟩,⟨r0,r1,r2,r3,r4,r5,r6,r7,r8,r9⟩,q0,q1,q2,q3,q4,q5,q6,q7,q8,q9⟩:=M4.facts (j:=p.ns.length) (d:={aA:=p.ct.1,next:=-1,c:=-1}) Ä;have M5:=hid M4;clear M3 M4 h4 k4;go_wp2_with fail
  go_cut [] from 6 (λwc=>wc=(tP w4 g (p.ns.length*10) {kind:=7,c:=-1,next:=-1,aA:=p.ct.1,n:=k}).drew)
  case first=>
   clear M5 HT hlim
   go_region_with (fail)
   all_goals
    go_wp2_with fail;go_meet;exact rfl
  case rest=>
   obtain⟨h6,k6⟩:=lC M5.fx {kind:=7,c:=-1,next:=-1,aA:=p.ct.1,n:=k} hv (j:=p.ns.length) (d:={aA:=p.ct.1,next:=-1,c:=-1}) Ä;go_wp2_with fail;go_ret;exact⟨_,rfl,FX.cast (Ld l).symm h6.drew,(M5.fk.trans k6).drew,Oo (p1:={p with ns:=p.ns++[{aA:=p.ct.1,next:=-1,c:=-1}],nv:=v,ct:=Sp.aD p.ct}) (k:=k) rfl rfl rfl jX.out HN3.out rfl rfl rfl rfl⟩
end
section
theorem Az(base b pb:Nat)(s:ByteArray)(o:Nat)(ho:o<=12)(l:Sp.Bs)(p:FP)(w:Wd)(h:FR base b pb s l (o:Int) p w)(hlim:fu p l)(ht:Sp.tok l=ml) :
  Calls prog 91 #[ρ (Y ⟨b,0,M⟩)] w (oB base b pb s o p l w (de Tr o l)):=by
 obtain⟨c6,c3,ea,xP⟩:=h.asks;have c4:=cell_of h.aV 4 (v:=ρ (Y ⟨pb,0,M⟩)) rfl;have d2:=cell_of h.prog.aV 2 (v:=I O p.ct.1) rfl;have HT:=hid ht;have jX:Hid ((Sp.next l).length<l.length):=aJ ht É;have nO:p.ns.length+1<=1000000:=by have:=hlim.1;omega
 clear ea ht;go_enter func91,ntmps91;go_wp2_with fail;refine(eU (r:=.ok l) h {aA:=p.ct.1,next:=-1,c:=-1} nO).mono ?_;rintro e w1⟨rfl,v,h1,k1⟩;have o8:FR base b pb s l (o:Int) _ w1:=h1;have c4:=cell_of o8.aV 4 (v:=ρ (Y ⟨pb,0,M⟩)) rfl;have d2:=cell_of o8.prog.aV 2 (v:=I O p.ct.1) rfl;have f2:=ay o8.prog.aV 2;go_wp2_with fail
 go_cut [] from 6 (λwc=>wc=(w1.setCell ⟨pb,2,M⟩ (I O (RowKit.wrap64 (p.ct.1+1)))).drew)
 case first=>
  go_region_with (fail)
  all_goals
   go_wp2_with fail;go_meet;rw[IntWalk.i64_left]
 case rest=>
  obtain⟨jW,gN⟩:=FX.jU (r:=.ok l) (p':={p with ns:=p.ns++[{aA:=p.ct.1,next:=-1,c:=-1}],nv:=v,ct:=Sp.aD p.ct}) h1 2 (I O (RowKit.wrap64 (p.ct.1+1))) (mX h1.prog.aV _) rfl rfl rfl rfl;obtain⟨p1,tV,hp1q,hp1c,hx,hk⟩:∃p1:FP,Hid (p1.ns=p.ns++[{aA:=p.ct.1,next:=-1,c:=-1}])/\Hid (p1.qs=p.qs)/\p1.ct=Sp.aD p.ct/\FX base b pb s (.ok l) (o:Int) p1 wc/\FK b pb p p1 w wc:=⟨{p with ns:=p.ns++[{aA:=p.ct.1,next:=-1,c:=-1}],nv:=v,ct:=Sp.aD p.ct},gj _,gj _,rfl,by rw[hcut];exact jW.drew,by rw[hcut];exact k1.trans gN.drew⟩;clear hcut jW gN h1 k1 o8 c4 d2 f2 c3 c6;have fg:FR base b pb s l (o:Int) _ wc:=hx;have c4:=cell_of fg.aV 4 (v:=ρ (Y ⟨pb,0,M⟩)) rfl;have d2:=cell_of fg.prog.aV 2 (v:=I O (RowKit.wrap64 (p.ct.1+1))) (by rw[show(RowKit.wrap64 (p.ct.1+1))=p1.ct.1 by rw[hp1c];rfl];rfl);have c3:=cell_of fg.aV 3 (v:=χ ⟨(Sp.tok l).toArray⟩) rfl;rw[HT.out]at c3;have qX:RowKit.wrap64 (RowKit.wrap64 (p.ct.1+1)-1)=p.ct.1:=by obtain⟨_,_,a1,a2⟩:=hlim;unfold RowKit.wrap64;omega
  have zX:b<wc.heap.size:=ah fg.aV;have Te:pb<wc.heap.size:=ah fg.prog.aV;have d3:=cell_of fg.prog.aV 3 (v:=I O p.ct.2) (by rw[show p.ct.2=p1.ct.2 by rw[hp1c];rfl];rfl);have f3:=ay fg.prog.aV 3;have Dn:=hid hp1c;have QO:=hid hlim;obtain⟨jW,gN⟩:=FX.jU (r:=.ok l) (p':={p1 with ct:=Sp.aL (Sp.aD p.ct)}) hx 3 (I O (RowKit.wrap64 (p.ct.2+1))) (by have:=BZ fg.prog.aV (RowKit.wrap64 (p.ct.2+1));rw[hp1c]at this;exact this) rfl rfl rfl rfl;have M0:=(iI.start {kind:=8,c:=-1,next:=-1,aA:=p.ct.1,site:=p.ct.2} jW (hk.trans gN)).drew;rw[show(wc.setCell ⟨pb,3,M⟩ (I O (RowKit.wrap64 (p.ct.2+1)))).heap.size=wc.heap.size by simp[World.setCell]]at M0;obtain⟨p2,tY,hp2q,HP2C,M2⟩:∃p2:FP,Hid (p2.ns=p.ns++[{aA:=p.ct.1,next:=-1,c:=-1}])/\Hid (p2.qs=p.qs)/\Hid (p2.ct=Sp.aL (Sp.aD p.ct))/\Hid (iI base b pb wc.heap.size s (.ok l) (o:Int) p p2 w {kind:=8,c:=-1,next:=-1,aA:=p.ct.1,site:=p.ct.2} ((wc.setCell ⟨pb,3,M⟩ (I O (RowKit.wrap64 (p.ct.2+1)))).alloc (L (cA {kind:=8,c:=-1,next:=-1,aA:=p.ct.1,site:=p.ct.2}).toArray 200)).drew):=⟨{p1 with ct:=Sp.aL (Sp.aD p.ct)},tV,hp1q,gj _,M0⟩;clear hx hk hp1c hlim M0 jW gN;go_wp2_with fail
  go_cut [] from 6 (λwd=>wd=((wc.setCell ⟨pb,3,M⟩ (I O (RowKit.wrap64 (p.ct.2+1)))).alloc (L (cA {kind:=8,c:=-1,next:=-1,aA:=p.ct.1,site:=p.ct.2}).toArray 200)).drew)
  case first=>
   clear M2 HT jX Dn QO
   go_region_with (fail)
   all_goals
    go_wp2_with fail;go_meet;rw[IntWalk.i64_left]
    all_goals exact rfl
  case rest=>
   rw[<-hcut]at M2;have ri:Hid (fu p2 (Sp.next l)):=qP QO.out tY.out hp2q.out (by rw[HP2C.out];exact fW _) jX.out;clear hcut tV hp1q Dn QO c3 c4 d2 d3 f3 fg;go_wp2_with fail;refine(ek (FR.AO M2.fx)).mono ?_;rintro e w2⟨rfl,h2,k2⟩;have M3:=hid (M2.call (r':=.ok (Sp.next l)) h2 k2);have H2:Hid (FR base b pb s (Sp.next l) (o:Int) p2 w2):=h2;clear M2 h2 k2;go_wp2_with fail;refine(pG ho H2.out ri.out).mono ?_;rintro e w3⟨kc,p3,rfl,h3,k3,g3⟩;have HD:Hid (p3.ns[p.ns.length]?=Y {aA:=p.ct.1,next:=-1,c:=-1}):=mT tY.out (OX g3);have G3:=hid g3;have M4:=M3.call h3 k3;obtain⟨e1,f1⟩:=M4.box.cell 1 rfl;have M5:=hid (M4.set 1 (I O kc) (n':={kind:=8,c:=-1,next:=-1,aA:=p.ct.1,site:=p.ct.2,a:=kc}) rfl);clear M4 M3 h3 k3 g3 H2;go_wp2_with fail;refine(tF M5.fx [59]).mono ?_;rintro e w4⟨rfl,h4,k4⟩;have M9:=hid (M5.call h4 k4);clear M5 h4 k4;obtain⟨g,cap,hv,nH,hmax,lX,hj,a4,a0,⟨n0,n1,n2,n3,n4,n5,n6,n7,n8,n9⟩,⟨r0,r1,r2,r3,r4,r5,r6,r7,r8,r9⟩,q0,q1,q2,q3,q4,q5,q6,q7,q8,q9⟩:=M9.facts (j:=p.ns.length) (d:={aA:=p.ct.1,next:=-1,c:=-1}) HD.out;go_wp2_with fail
   go_cut [] from 6 (λwc=>wc=(tP w4 g (p.ns.length*10) {kind:=8,c:=-1,next:=-1,aA:=p.ct.1,site:=p.ct.2,a:=kc}).drew)
   case first=>
    clear M9 HT HD ri jX G3
    go_region_with (fail)
    all_goals
     go_wp2_with fail;go_meet;exact rfl
   case rest=>
    obtain⟨h6,k6⟩:=lC M9.fx {kind:=8,c:=-1,next:=-1,aA:=p.ct.1,site:=p.ct.2,a:=kc} hv (j:=p.ns.length) (d:={aA:=p.ct.1,next:=-1,c:=-1}) HD.out;go_wp2_with fail;go_ret;have G9:=IT (n:={kind:=8,c:=-1,next:=-1,aA:=p.ct.1,site:=p.ct.2,a:=kc}) (kc:=kc) tY.out hp2q.out HP2C.out jX.out G3.out rfl rfl rfl rfl rfl;rw[hcut];exact mQ (Cz o l) h6.drew (M9.fk.trans k6).drew G9
end
end Go.Proofs.YtiopfihjmkfdmabGreatDoor
