import Derived.Test.YtiopfihjmkfdmabGreatDoorC21
namespace Go.Proofs.YtiopfihjmkfdmabGreatDoor
open Option renaming none->M,some->Y
open Go.Value renaming int->I,pointer->ρ,string->χ,slice->Z,bool->U
open Go.IntKind renaming i64->O
open Go.Ending renaming returned->υ
open Go.Obj renaming cells->L
open Go.Proofs.Tryz Sp
open Go.RowKit
set_option maxRecDepth 100000
set_option maxHeartbeats 16000000
section
section
variable{l r:Bs}
theorem DW(h:cU l=true):aC l=2:=by
 unfold cU at h;simp only[Bool.or_eq_true,beq_iff_eq]at h
 rcases h with(((h|h)|h)|h)|h
 .cases hq:aS l with
  |none=>rw[hq]at h;cases h
  |some k=>exact fL hq
 .exact jL (c:=114) h rfl
 .exact jL (c:=97) h rfl
 .exact jL (c:=105) h rfl
 .exact jL (c:=119) h rfl
theorem Ik(h:cU l=false):aS l=M/\Sp.tok l≠vW/\Sp.tok l≠ml/\Sp.tok l≠TO/\Sp.tok l≠pZ:=by
 unfold cU at h;simp only[Bool.or_eq_false_iff,beq_eq_false_iff_ne]at h;obtain⟨⟨⟨⟨h1,h2⟩,h3⟩,h4⟩,h5⟩:=h;refine⟨?_,h2,h3,h4,h5⟩;cases hq:aS l with
 |none=>rfl
 |some k=>rw[hq]at h1;cases h1
theorem oS(A:fE)(n o:Nat)(h:cU l=false):bL A n o l=.error (2,l.length):=by
 obtain⟨h1,h2,h3,h4,h5⟩:=Ik h;cases n with
 |zero=>rfl
 |succ n=>unfold bL;rw[Â h2,Â h3,Â h4,Â h5];unfold cC;rw[lL h1]
def dt(A:fE)(st:Bs->R A.T):Nat->List A.T->Bs->R (List A.T)
 |0,acc,l=>.ok (acc,l)
 | m+1,acc,l=>if cU l=true then(match st l with
     |.ok (x,l1)=>dt A st m (acc++[x]) l1
     |.error e=>.error e) else .ok (acc,l)
def xz{α:Type}:R α->R α
 |.ok (x,l)=>if aC l=2 then .error (2,l.length) else .ok (x,l)
 |.error e=>.error e
theorem CG(A:fE)(st:Bs->R A.T)(im:∀l,cU l=false->st l=.error (2,l.length))(da:∀l x l1,st l=.ok (x,l1)->l1.length<l.length):∀(m:Nat) (acc:List A.T) (l:Bs),l.length<m->dh A st m acc l=xz (dt A st m acc l)
 |0,_,_,h=>absurd h (Nat.not_lt_zero _)
 |m+1,acc,l,h=>by
  unfold dh dt;by_cases hb:cU l=true
  .rw[Á hb,Á (DW hb)]
   cases hs:st l with
   |error e=>rfl
   |ok xl=>have:=da l xl.1 xl.2 hs;exact CG A st im da m _ _ À
  .have Gm:cU l=false:=by simpa using hb
   rw[Â hb];unfold xz;by_cases hk:aC l=2
   .rw[Á hk,im l Gm];simp only[hk,if_true]
   .rw[Â hk];simp only[hk,if_false]
theorem SK{c:UInt8}(h:aC l=2)(hc:Sp.isLet c=false):Sp.tok l≠c::r:=by
 intro e;cases l with
 |nil=>simp[Sp.tok]at e
 |cons d q=>
  have ed:d=c:=by
   unfold Sp.tok at e;cases hn:bh (d::q) with
   |zero=>rw[hn]at e;simp at e
   |succ m=>rw[hn,á]at e;exact(List.cons.inj e).1
  subst ed;rw[cj,Â (by rw[hc];simp)]at h;split at h
  .omega
  .split at h<;>omega
def bI(A:fE)(st:Bs->R A.T)(o:Nat)(l:Bs):R (List A.T):=match Sp.enter [123] o l with
 |.ok l1=>(match dt A st (l1.length+1) [] l1 with
  |.ok (xs,l2)=>(match Sp.take [125] l2 with
   |.ok l3=>.ok (xs,l3)
   |.error e=>.error e)
  |.error e=>.error e)
 |.error e=>.error e
theorem Ob(A:fE)(st:Bs->R A.T)(im:∀l,cU l=false->st l=.error (2,l.length))(da:∀l x l1,st l=.ok (x,l1)->l1.length<l.length)(o:Nat)(l:Bs):aR A st o l=bI A st o l:=by
 unfold aR bI;cases Sp.enter [123] o l with
 |error e=>rfl
 |ok l1=>
  simp only;rw[CG A st im da _ _ _ À];cases dt A st (l1.length+1) [] l1 with
  |error e=>rfl
  |ok xl=>
   obtain⟨xs,l2⟩:=xl;simp only[xz];by_cases hk:aC l2=2
   .rw[Á hk]
    unfold Sp.take;rw[Â (SK hk rfl)];rfl
   .rw[Â hk];rfl
theorem R4(A:fE)(l:Bs):pK A l=(match dt A (bL A (l.length+1) 0) (l.length+1) [] l with
  |.ok (xs,l1)=>if l1=[] then .ok xs else Sp.bad 2 l1
  |.error e=>.error e):=by
 unfold pK;rw[CG A _ (λl h=>oS A _ _ h) (λl x l1 h=>ld _ _ _ _ _ h) _ _ _ À];cases dt A (bL A (l.length+1) 0) (l.length+1) [] l with
 |error e=>rfl
 |ok xl=>
  obtain⟨xs,l2⟩:=xl;simp only[xz];by_cases hk:aC l2=2
  .rw[Á hk]
   have:l2≠[]:=by intro e;subst e;simp[aC]at hk
   rw[Â this];rfl
  .rw[Â hk]
end
end
section
section
variable{src l1:Sp.Bs}
theorem uU(A:fE)(src:Sp.Bs)(h:¬ 400<src.length):Sp.parse A src=(match dt A (bL A ((Sp.skip src).length+1) 0) ((Sp.skip src).length+1) [] (Sp.skip src) with
  |.ok (fs,l1)=>if l1=[] then .ok fs else .error (2,src.length-l1.length)
  |.error e=>.error (e.1,src.length-e.2)):=by
 unfold Sp.parse;rw[Â h,R4]
 rcases dt A (bL A ((Sp.skip src).length+1) 0) ((Sp.skip src).length+1) [] (Sp.skip src) with e|⟨fs,l1⟩
 .rfl
 .simp only
  by_cases hl:l1=[]
  .rw[Á hl,Á hl]
  .rw[Â hl,Â hl];rfl
theorem LM(h:400<src.length):Sp.tree src=.error (1,0):=by unfold Sp.tree Sp.parse;rw[Á h]
theorem Su(h:¬400<src.length){fs:List (Bl->Bl)}(e:dt Tr (bL Tr ((Sp.skip src).length+1) 0) ((Sp.skip src).length+1) [] (Sp.skip src)=.ok (fs,[])):Sp.tree src=.ok (aO fs):=by unfold Sp.tree;rw[uU Tr src h,e];rfl
theorem KH(h:¬400<src.length){fs:List (Bl->Bl)}(hl:l1≠[])(e:dt Tr (bL Tr ((Sp.skip src).length+1) 0) ((Sp.skip src).length+1) [] (Sp.skip src)=.ok (fs,l1)):Sp.tree src=.error (2,src.length-l1.length):=by unfold Sp.tree;rw[uU Tr src h,e];simp only;rw[Â hl]
theorem Oy(h:¬400<src.length){er:Nat×Nat}(e:dt Tr (bL Tr ((Sp.skip src).length+1) 0) ((Sp.skip src).length+1) [] (Sp.skip src)=.error er):Sp.tree src=.error (er.1,src.length-er.2):=by unfold Sp.tree;rw[uU Tr src h,e]
end
end
section
section
variable{base b pb m lv op:Nat}
variable{s:ByteArray}
variable{o first k k2:Int}
variable{p:FP}
variable{w:Wd}
variable{l l1:Sp.Bs}
theorem nD{r:Except (Nat × Nat) Sp.Bs}(h:FX base b pb s r o p w)(x y site:Int)(t:Sp.Bs)(hn:p.ns.length+1<=1000000) :
  Calls prog 173 #[ρ (Y ⟨b,0,M⟩),I O x,χ ⟨t.toArray⟩,I O site,I O y] w λe w'=>e=υ (I O (p.ns.length:Nat))/\∃v,FX base b pb s r o {p with ns:=p.ns++[{kind:=4,a:=x,b:=y,sign:=t,site:=site}],nv:=v} w'/\FK b pb p {p with ns:=p.ns++[{kind:=4,a:=x,b:=y,sign:=t,site:=site}],nv:=v} w w':=by
 have H:=hid h;clear h;go_enter func173,ntmps173;go_wp2_with fail;refine(eU H.out {kind:=4,a:=x,b:=y,sign:=t,site:=site} hn).mono ?_;rintro e w2⟨rfl,v,h2,k2⟩;go_wp2_with fail;go_ret;exact⟨rfl,v,h2,k2⟩
theorem BZ(h:Bk w pb (cQ p first) 110)(n:Int):(w.setCell ⟨pb,3,M⟩ (I O n)).heap[pb]?=Y (L (cQ {p with ct:=(p.ct.1,n)} first) 110):=by rw[ai h 3 (I O n)];rfl
theorem mX(h:Bk w pb (cQ p first) 110)(n:Int):(w.setCell ⟨pb,2,M⟩ (I O n)).heap[pb]?=Y (L (cQ {p with ct:=(n,p.ct.2)} first) 110):=by rw[ai h 2 (I O n)];rfl
theorem FX.jU{r:Except (Nat × Nat) Sp.Bs}{p':FP}(h:FX base b pb s r o p w)(i:Nat)(u:Value)(hb:Bk (w.setCell ⟨pb,i,M⟩ u) pb (cQ p' 0) 110)(h1:p'.ns=p.ns)(h2:p'.qs=p.qs)(h3:p'.nv=p.nv)(h4:p'.qv=p.qv) :
  FX base b pb s r o p' (w.setCell ⟨pb,i,M⟩ u)/\FK b pb p p' w (w.setCell ⟨pb,i,M⟩ u):=by
 have hp:=h.prog;have Ng:=hp.dX hp.aV mv;refine⟨h.move (Æ _ _ _ _ h.ne) ⟨hb,?_,?_,hp.ge,by rw[h1];exact hp.n5,by rw[h2];exact hp.q5⟩,rfl,rfl,rfl,by simp[World.setCell],λ_ e=>.inl (by rw[<-h3];exact e),λ_ e=>.inl (by rw[<-h4];exact e),λk hk _ e2 _ _=>Æ _ _ _ _ e2⟩
 .rw[h1,h3]
  exact aY hp.kQ (λg rf=>Æ _ _ _ _ (λe=>Ng.1 (by rw[<-show g=pb from e];exact rf)))
 .rw[h2,h4]
  exact aY hp.lU (λg rf=>Æ _ _ _ _ (λe=>Ng.2 (by rw[<-show g=pb from e];exact rf)))
def oX(b:Nat)(s:ByteArray)(w:Wd):Nat:=match w.cell? ⟨b,6,M⟩ with
 |some (I _ 0)=>(match w.cell? ⟨b,2,M⟩ with
  |some (I _ a)=>s.size+1-a.toNat
  |_=>0)
 |_=>0
theorem FR.rest(h:FR base b pb s l o p w):oX b s w=l.length+1:=by unfold oX;rw[cell_of h.aV 6 (v:=I O 0) rfl];simp only;rw[cell_of h.aV 2 (v:=I O ((s.size-l.length:Nat):Int)) rfl];simp only;have:=h.len;omega
theorem FE.rest{er:Nat×Nat}(h:FE base b pb s er p w):oX b s w=0:=by
 obtain⟨i,l0,o,hb,_⟩:=h.aV;have hz:=h.nz;unfold oX;rw[cell_of hb 6 (v:=I O er.1) rfl];split
 .rename_i k e
  have:er.1=0:=(by simpa using e:_/\er.1=0).2;omega
 .rfl
theorem FX.qu{α:Type}{r:Sp.R α}(h:FX base b pb s (left r) o p w)(hm:∀x l,r=.ok (x,l)->l.length<m):oX b s w<=m:=by
 cases r with
 |error e=>rw[FE.rest (show FE base b pb s e p w from h)];omega
 |ok xl=>rw[FR.rest (show FR base b pb s xl.2 o p w from h)];exact hm xl.1 xl.2 rfl
def tG(A:fE)(lv:Nat)(u:Sp.Bs->Sp.R A.S)(fin:Sp.R A.S):Sp.R A.S->Prop
 |.ok (x,l)=>∃m,l.length<m/\fin=bK A lv u m x l
 |.error e=>fin=.error e
def PC(A:fE)(op:Nat)(x:A.S):Sp.R A.S->Sp.R A.S
 |.ok (y,l)=>.ok (A.bin op x y,l)
 |.error e=>.error e
theorem xZ(A:fE)(lv:Nat)(u:Sp.Bs->Sp.R A.S)(m:Nat)(x:A.S)(l:Sp.Bs):bK A lv u (m+1) x l=match eA (Sp.tok l) with
  | some k=>if cT k=lv then(match u (Sp.next l) with
    |.ok (y,l')=>bK A lv u m (A.bin k x y) l'
    |.error e=>.error e) else .ok (x,l)
  |none=>.ok (x,l):=by rw[bK];rfl
theorem FQ{A:fE}{u:Sp.Bs->Sp.R A.S}{fin:Sp.R A.S}{x:A.S}(h:tG A lv u fin (.ok (x,l)))(iM:eA (Sp.tok l)=Y op)(MP:cT op=lv)(da:∀l x l1,u l=.ok (x,l1)->l1.length<=l.length):tG A lv u fin (PC A op x (u (Sp.next l))):=by
 obtain⟨m,hm,e⟩:=h;cases m with
 |zero=>omega
 |succ m=>
  have hn:=fZ iM;rw[xZ]at e;rw[iM]at e;simp only[MP,if_true]at e;cases hu:u (Sp.next l) with
  |error er=>rw[hu]at e;exact e
  |ok yl=>obtain⟨y,l1⟩:=yl;have:=da _ _ _ hu;rw[hu]at e;exact⟨m,À,e⟩
theorem FG{A:fE}{u:Sp.Bs->Sp.R A.S}{fin:Sp.R A.S}{x:A.S}(h:tG A lv u fin (.ok (x,l)))(iM:∀op,eA (Sp.tok l)=Y op->cT op≠lv):fin=.ok (x,l):=by
 obtain⟨m,hm,e⟩:=h;cases m with
 |zero=>omega
 |succ m=>
  rw[xZ]at e;cases ho:eA (Sp.tok l) with
  |none=>rw[ho]at e;exact e
  |some op=>rw[ho]at e;simp only[Â (iM op ho)]at e;exact e
def lE(lv:Nat)(u:Sp.Bs->Sp.R Sm)(fin:Sp.R Sm)(r:Sp.R Sm):Prop:=tG Tr lv u fin r
def roundOf(op:Nat)(x:Sm):Sp.R Sm->Sp.R Sm
 |.ok (y,l)=>.ok (.bin op x y,l)
 |.error e=>.error e
theorem Og(op:Nat)(x:Sm)(r:Sp.R Sm):PC Tr op x r=roundOf op x r:=by rcases r with e|⟨y,l⟩<;>rfl
theorem lu{u:Sp.Bs->Sp.R Sm}{fin:Sp.R Sm}{x:Sm}(h:lE lv u fin (.ok (x,l)))(iM:eA (Sp.tok l)=Y op)(MP:cT op=lv)(da:∀l x l1,u l=.ok (x,l1)->l1.length<=l.length):lE lv u fin (roundOf op x (u (Sp.next l))):=by have:=FQ (A:=Tr) h iM MP da;rw[<-Og];exact this
theorem yi{u:Sp.Bs->Sp.R Sm}{fin:Sp.R Sm}{x:Sm}(h:lE lv u fin (.ok (x,l)))(iM:∀op,eA (Sp.tok l)=Y op->cT op≠lv):fin=.ok (x,l):=FG (A:=Tr) h iM
theorem vw{u:Sp.Bs->Sp.R Sm}{fin:Sp.R Sm}{e:Nat×Nat}(h:lE lv u fin (.error e)):fin=.error e:=h
theorem vO{u:Sp.Bs->Sp.R Sm}:lE lv u (bS Tr lv u l) (u l):=by
 unfold bS;show tG Tr lv u _ _
 rcases hu:u l with e|⟨x,l1⟩
 .exact rfl
 .exact⟨l1.length+1,À,rfl⟩
theorem mW{p1 p2 p3:FP}{x:Sm}{r:Sp.R Sm}{n:aK}{v:Value}(g:iQ p p1 l k (.ok (x,l1)))(iM:eA (Sp.tok l1)=Y op)
  (e1:p2.ns=p1.ns) (e2:p2.qs=p1.qs) (e3:p2.ct=if 3<=op then Sp.aL p1.ct else p1.ct) (g2:iQ p2 p3 (Sp.next l1) k2 r) (hk:n.kind=4) (ha:n.a=k) (hb:n.b=k2) (hs:n.sign=Sp.tok l1) (Kw:n.site=if 3<=op then p1.ct.2 else -1):
  iQ p {p3 with ns:=p3.ns++[n],nv:=v} l (p3.ns.length:Nat) (roundOf op x r):=by
 have hn:=fZ iM;obtain⟨m1,⟨j,AF,Ku,Gn⟩,q1⟩:=g;cases r with
 |error e=>
  have g3:dD p2 p3 (Sp.next l1):=g2;have g4:dD p1 p3 (Sp.next l1):=by obtain⟨⟨ex,hex⟩,g5⟩:=g3;exact⟨⟨ex,by rw[hex,e1]⟩,by rw[e1]at g5;exact g5⟩
  exact dD.made m1 (g4.node hn n v)
 |ok yl=>
  obtain⟨y,l2⟩:=yl;obtain⟨m2,⟨j2,i1,i2,i3⟩,q2⟩:=g2;obtain⟨ex1,x1⟩:=m1.pre;obtain⟨ex2,x2⟩:=m2.pre;have n1:=m1.nl;have n2:=m2.nl;have l1':=m1.ql;have UB:=m2.ql;rw[e1]at n2 x2;rw[e2]at UB q2;have hlen:p1.ns.length<=p3.ns.length:=by rw[x2];simp
  have Zt:p.ns.length<=p1.ns.length:=m1.len;have hin:∀i,i<p1.ns.length->(p3.ns++[n])[i]?=p1.ns[i]?:=λi hi=>by rw[List.getElem?_append_left À,x2,List.getElem?_append_left hi]
  refine⟨⟨⟨ex1++(ex2++[n]),by show p3.ns++[n]=_;rw[x2,x1];simp⟩,by simp;omega,by show p3.qs.length+_<=_;omega,λq=>m2.pt (by rw[e3];have:=m1.pt q;split<;>exact this)⟩,⟨p3.ns.length,rfl,Ä,?_⟩,by show p3.qs=_;rw[q2,q1];simp[fR]⟩;refine⟨n,j,j2,p1.ct,Ä,hk,by rw[ha,AF],by rw[hb,i1],?_,sO iM,À,i2,Gn.mono È (λi _ hi=>hin i À),Kw,?_⟩
  .rw[hs]
   unfold eA at iM
   repeat' split at iM
   all_goals first|(rename_i he;cases iM;rw[he];rfl)|cases iM
  .rw[<-e3,e1]at*
   exact i3.mono Zt (λi _ hi=>by show(p3.ns++[n])[i]?=_;rw[List.getElem?_append_left À])
end
end
section
section
variable{base b pb op:Nat}
variable{s:ByteArray}
variable{p p':FP}
variable{w w':Wd}
theorem FE.asks{er:Nat×Nat}(h:FE base b pb s er p w):∃(q:Int) (t:ByteArray),w.cell? ⟨b,6,M⟩=Y (I O q)/\(q==0)=false/\¬q=0/\w.cell? ⟨b,3,M⟩=Y (χ t):=by obtain⟨i,l0,o,hb,_⟩:=h.aV;have:=h.nz;exact⟨er.1,_,cell_of hb 6 rfl,by simp;omega,À,cell_of hb 3 rfl⟩
theorem B9(base b pb:Nat)(s:ByteArray):A9 172 base b pb s 0:=by
 intro er p w h;obtain⟨q,t,c6,hz,ff,c3⟩:=h.asks;go_enter func172,ntmps172;go_wp2_with fail;refine(zl base b pb s er p w h).mono ?_;rintro e w1⟨rfl,rfl⟩;go_wp2_with fail
 go_loopw [3] (λa wr=>a=I O 0/\wr=w1) (λ_ _=>0)
 case atStart=>exact⟨rfl,rfl⟩
 case round=>
  obtain⟨rfl,rfl⟩:=hrel;go_wp2_with fail;go_ret;exact⟨rfl,rfl⟩
def Cd(base b pb:Nat)(s:ByteArray)(o:Nat)(p0:FP)(l0:Sp.Bs)(w0:Wd)(lv:Nat)(u:Sp.Bs->Sp.R Sm)(fin:Sp.R Sm)(k:Int)(w:Wd):Prop:=
 ∃(cur:Sp.R Sm) (p:FP),FX base b pb s (left cur) (o:Int) p w/\FK b pb p0 p w0 w/\iQ p0 p l0 k cur/\lE lv u fin cur
theorem FX.drew{r:Except (Nat×Nat) Sp.Bs}{o:Int}(h:FX base b pb s r o p w):FX base b pb s r o p w.drew:=h.after (Å).drew
theorem FK.drew(h:FK b pb p p' w w'):FK b pb p p' w w'.drew:=⟨h.os,h.tape,h.output,h.size,h.kQ,h.lU,h.block⟩
theorem qJ{l:Sp.Bs}{k:Int}{r:Sp.R Sm}(g:iQ p p' l k r)(hl:fu p l):p'.ns.length+1<=1000000:=by
 obtain⟨h1,h2,_⟩:=hl
 rcases r with e|⟨x,l1⟩
 .have:=(show dD p p' l from g).2;omega
 .have:=g.1.nl;omega
theorem kW{x:Sm}{r:Sp.R Sm}{o:Int}(h:FX base b pb s (left r) o p w):FX base b pb s (left (roundOf op x r)) o p w:=by rcases r with e|⟨y,l⟩<;>exact h
theorem mR{x y:Sm}{l l':Sp.Bs}{u:Sp.Bs->Sp.R Sm}(da:∀l x l1,u l=.ok (x,l1)->l1.length<=l.length)(iM:eA (Sp.tok l)=Y op)(h:roundOf op x (u (Sp.next l))=.ok (y,l')):l'.length<l.length:=by
 have hn:=fZ iM
 rcases hu:u (Sp.next l) with e|⟨z,l1⟩
 .rw[hu]at h;cases h
 .rw[hu]at h
  have:=da _ _ _ hu;cases h
  omega
theorem qh(base b pb:Nat)(s:ByteArray)(o n:Nat)(u:Sp.Bs->Sp.R Sm)(da:∀l x l1,u l=.ok (x,l1)->l1.length<=l.length)(hr:mH 204 base b pb s o n u):mH 172 base b pb s o n (pR Tr u):=by
 intro l p w hl h hlim;have HR:=hid hr;have HD:Hid (∀l x l1,u l=.ok (x,l1)->l1.length<=l.length):=da;have hE:Hid (pR Tr u l=bS Tr 1 u l):=rfl;clear hr da;go_enter func172,ntmps172;go_wp2_with fail;refine(HR.out l p w hl h hlim).mono ?_;rintro e w1⟨k,p1,rfl,h1,k1,g1⟩;have HC:Hid (Cd base b pb s o p l w 1 u (bS Tr 1 u l) k w1):=⟨u l,p1,h1,k1,g1,vO⟩;clear h1 k1 g1 h;go_wp2_with fail
 go_loopw [3] (λa wr=>∃k:Int,a=I O k/\Hid (Cd base b pb s o p l w 1 u (bS Tr 1 u l) k wr)) (λ_ wr=>oX b s wr)
 case atStart=>exact⟨k,rfl,HC⟩
 case round=>
  obtain⟨k,rfl,nK⟩:=hrel;obtain⟨cur,pc,hx,hk,hg,wM⟩:=nK.out
  rcases cur with er|⟨x,lc⟩
  .obtain⟨q,t,c6,hz,ff,c3⟩:=FE.asks (show FE base b pb s er pc wr from hx)
   have HF:Hid (jA base b pb s o p l w (pR Tr u l) (υ (I O k)) wr):=by unfold Hid;rw[hE.out,vw wM];exact⟨k,pc,rfl,hx,hk,hg⟩
   clear hx hk hg wM nK HC;go_wp2_with fail;go_ret;exact HF.out
  .have fg:FR base b pb s lc (o:Int) pc wr:=hx
   obtain⟨c6,c3,ea,xP⟩:=fg.asks;by_cases iM:Sp.tok lc=[42]∨Sp.tok lc=[47]∨Sp.tok lc=[37]
   .have hlc:lc.length<=l.length:=by have:=hg.1.nl;have:=hg.1.len;omega
    have QI:Hid (fu pc lc):=hg.1.Gf hlim;have HW:=hid fg.rest
    rcases iM with ht|ht|ht
    .have iM:eA (Sp.tok lc)=Y 2:=by rw[ht];rfl
     have HG:Hid (iQ p pc l k (.ok (x,lc))/\eA (Sp.tok lc)=Y 2/\Sp.tok lc=[42]/\lE 1 u (bS Tr 1 u l) (roundOf 2 x (u (Sp.next lc)))):=⟨hg,iM,ht,lu wM iM rfl HD.out⟩;have fD:=fZ iM;have HL:Hid (fu pc (Sp.next lc)):=(bV.z8 À).Gf QI.out;rw[ht]at c3;clear iM ht ea wM hg hx nK HC QI;go_wp2_with fail;refine(ek fg).mono ?_;rintro e w2⟨rfl,h2,k2⟩;go_wp2_with fail;refine(HR.out (Sp.next lc) pc w2 À h2 HL.out).mono ?_;rintro e w3⟨k3,p3,rfl,h3,Ge,g3⟩;have jm:=qJ g3 HL.out;have H3:Hid (_/\_/\_):=⟨h3,Ge,g3⟩;clear h3 Ge g3;go_wp2_with fail;refine(nD H3.1 k k3 (-1) [42] jm).mono ?_;rintro e w4⟨rfl,v,h4,k4⟩;have π:=mW (v:=v) (n:={kind:=4,a:=k,b:=k3,sign:=[42],site:=(-1)}) HG.1 HG.2.1 rfl rfl rfl H3.2.2 rfl rfl rfl HG.2.2.1.symm rfl;have Dy:FX base b pb s (left (roundOf 2 x (u (Sp.next lc)))) (o:Int) _ w4:=kW h4;have cP:=Dy.qu (m:=lc.length) (λy l' e=>mR HD.out HG.2.1 e);have xx:Hid (Cd base b pb s o p l w 1 u (bS Tr 1 u l) (p3.ns.length:Nat) w4):=⟨_,_,Dy,((hk.trans k2).trans H3.2.1).trans k4,π,HG.2.2.2⟩;clear π Dy h4 k4;go_wp2_with fail;exact⟨⟨_,rfl,xx⟩,by rw[HW.out];omega⟩
    .have iM:eA (Sp.tok lc)=Y 3:=by rw[ht];rfl
     have HG:Hid (iQ p pc l k (.ok (x,lc))/\eA (Sp.tok lc)=Y 3/\Sp.tok lc=[47]/\lE 1 u (bS Tr 1 u l) (roundOf 3 x (u (Sp.next lc)))):=⟨hg,iM,ht,lu wM iM rfl HD.out⟩;have fD:=fZ iM;have c4:=cell_of fg.aV 4 (v:=ρ (Y ⟨pb,0,M⟩)) rfl;have d3:=cell_of fg.prog.aV 3 (v:=I O pc.ct.2) rfl;have f3:=ay fg.prog.aV 3;obtain⟨jW,gN⟩:=FX.jU (r:=.ok lc) (p':={pc with ct:=Sp.aL pc.ct}) fg 3 (I O (RowKit.wrap64 (pc.ct.2+1))) (BZ fg.prog.aV _) rfl rfl rfl rfl;have HS:Hid (FR base b pb s lc (o:Int) {pc with ct:=Sp.aL pc.ct} (wr.setCell ⟨pb,3,M⟩ (I O (RowKit.wrap64 (pc.ct.2+1)))).drew/\FK b pb pc {pc with ct:=Sp.aL pc.ct} wr (wr.setCell ⟨pb,3,M⟩ (I O (RowKit.wrap64 (pc.ct.2+1)))).drew):=⟨FX.drew (r:=.ok lc) jW,gN.drew⟩;have HL:Hid (fu {pc with ct:=Sp.aL pc.ct} (Sp.next lc)):=(bV.z8 (p:={pc with ct:=Sp.aL pc.ct}) (l:=lc) À).Gf QI.out;rw[ht]at c3;clear iM ht ea wM hg hx nK HC QI jW gN;go_wp2_with fail
     go_region_with (fail)
     all_goals
      go_wp2_with fail;refine(ek HS.1).mono ?_;rintro e w2⟨rfl,h2,k2⟩;go_wp2_with fail;refine(HR.out (Sp.next lc) {pc with ct:=Sp.aL pc.ct} w2 À h2 HL.out).mono ?_;rintro e w3⟨k3,p3,rfl,h3,Ge,g3⟩;have jm:=qJ g3 HL.out;have H3:Hid (_/\_/\_):=⟨h3,Ge,g3⟩;clear h3 Ge g3;go_wp2_with fail;refine(nD H3.1 k k3 pc.ct.2 [47] jm).mono ?_;rintro e w4⟨rfl,v,h4,k4⟩;have π:=mW (p2:={pc with ct:=Sp.aL pc.ct}) (v:=v) (n:={kind:=4,a:=k,b:=k3,sign:=[47],site:=pc.ct.2}) HG.1 HG.2.1 rfl rfl rfl H3.2.2 rfl rfl rfl HG.2.2.1.symm rfl;have Dy:FX base b pb s (left (roundOf 3 x (u (Sp.next lc)))) (o:Int) _ w4:=kW h4;have cP:=Dy.qu (m:=lc.length) (λy l' e=>mR HD.out HG.2.1 e);have xx:Hid (Cd base b pb s o p l w 1 u (bS Tr 1 u l) (p3.ns.length:Nat) w4):=⟨_,_,Dy,((hk.trans (HS.2.trans k2)).trans H3.2.1).trans k4,π,HG.2.2.2⟩;clear π Dy h4 k4;go_wp2_with fail;exact⟨⟨_,rfl,xx⟩,by rw[HW.out];omega⟩
    .have iM:eA (Sp.tok lc)=Y 4:=by rw[ht];rfl
     have HG:Hid (iQ p pc l k (.ok (x,lc))/\eA (Sp.tok lc)=Y 4/\Sp.tok lc=[37]/\lE 1 u (bS Tr 1 u l) (roundOf 4 x (u (Sp.next lc)))):=⟨hg,iM,ht,lu wM iM rfl HD.out⟩;have fD:=fZ iM;have c4:=cell_of fg.aV 4 (v:=ρ (Y ⟨pb,0,M⟩)) rfl;have d3:=cell_of fg.prog.aV 3 (v:=I O pc.ct.2) rfl;have f3:=ay fg.prog.aV 3;obtain⟨jW,gN⟩:=FX.jU (r:=.ok lc) (p':={pc with ct:=Sp.aL pc.ct}) fg 3 (I O (RowKit.wrap64 (pc.ct.2+1))) (BZ fg.prog.aV _) rfl rfl rfl rfl;have HS:Hid (FR base b pb s lc (o:Int) {pc with ct:=Sp.aL pc.ct} (wr.setCell ⟨pb,3,M⟩ (I O (RowKit.wrap64 (pc.ct.2+1)))).drew/\FK b pb pc {pc with ct:=Sp.aL pc.ct} wr (wr.setCell ⟨pb,3,M⟩ (I O (RowKit.wrap64 (pc.ct.2+1)))).drew):=⟨FX.drew (r:=.ok lc) jW,gN.drew⟩;have HL:Hid (fu {pc with ct:=Sp.aL pc.ct} (Sp.next lc)):=(bV.z8 (p:={pc with ct:=Sp.aL pc.ct}) (l:=lc) À).Gf QI.out;rw[ht]at c3;clear iM ht ea wM hg hx nK HC QI jW gN;go_wp2_with fail
     go_region_with (fail)
     all_goals
      go_wp2_with fail;refine(ek HS.1).mono ?_;rintro e w2⟨rfl,h2,k2⟩;go_wp2_with fail;refine(HR.out (Sp.next lc) {pc with ct:=Sp.aL pc.ct} w2 À h2 HL.out).mono ?_;rintro e w3⟨k3,p3,rfl,h3,Ge,g3⟩;have jm:=qJ g3 HL.out;have H3:Hid (_/\_/\_):=⟨h3,Ge,g3⟩;clear h3 Ge g3;go_wp2_with fail;refine(nD H3.1 k k3 pc.ct.2 [37] jm).mono ?_;rintro e w4⟨rfl,v,h4,k4⟩;have π:=mW (p2:={pc with ct:=Sp.aL pc.ct}) (v:=v) (n:={kind:=4,a:=k,b:=k3,sign:=[37],site:=pc.ct.2}) HG.1 HG.2.1 rfl rfl rfl H3.2.2 rfl rfl rfl HG.2.2.1.symm rfl;have Dy:FX base b pb s (left (roundOf 4 x (u (Sp.next lc)))) (o:Int) _ w4:=kW h4;have cP:=Dy.qu (m:=lc.length) (λy l' e=>mR HD.out HG.2.1 e);have xx:Hid (Cd base b pb s o p l w 1 u (bS Tr 1 u l) (p3.ns.length:Nat) w4):=⟨_,_,Dy,((hk.trans (HS.2.trans k2)).trans H3.2.1).trans k4,π,HG.2.2.2⟩;clear π Dy h4 k4;go_wp2_with fail;exact⟨⟨_,rfl,xx⟩,by rw[HW.out];omega⟩
   .have im:Hid (bS Tr 1 u l=.ok (x,lc)):=yi wM (λop ho=>by
     unfold eA at ho;rw[Â (λe=>iM (.inl e)),Â (λe=>iM (.inr (.inl e))),Â (λe=>iM (.inr (.inr e)))]at ho;split at ho
     .cases ho;simp[cT]
     .split at ho
      .cases ho;simp[cT]
      .cases ho)
    have HF:Hid (jA base b pb s o p l w (pR Tr u l) (υ (I O k)) wr):=by unfold Hid;rw[hE.out,im.out];exact⟨k,pc,rfl,hx,hk,hg⟩
    have n1:((⟨(Sp.tok lc).toArray⟩:ByteArray).toList==[42])=false:=by rw[ByteArray.toList_eq];simpa usingλe=>iM (.inl e)
    have n2:((⟨(Sp.tok lc).toArray⟩:ByteArray).toList==[47])=false:=by rw[ByteArray.toList_eq];simpa usingλe=>iM (.inr (.inl e))
    have n3:((⟨(Sp.tok lc).toArray⟩:ByteArray).toList==[37])=false:=by rw[ByteArray.toList_eq];simpa usingλe=>iM (.inr (.inr e))
    generalize (⟨(Sp.tok lc).toArray⟩:ByteArray)=t at*;clear hx hk hg wM nK HC iM fg;go_wp2_with fail;go_ret;exact HF.out
end
end
section
section
variable{b pb N base j:Nat}
variable{n n' d:aK}
variable{p p' p0:FP}
variable{w w' w0:Wd}
variable{s:ByteArray}
variable{o o':Int}
structure An(b pb N:Nat)(n:aK)(p:FP)(w:Wd):Prop where
 aV:w.heap[N]?=Y (L (cA n).toArray 200)
 rn:p.nv.ownBlock≠Y N
 rq:p.qv.ownBlock≠Y N
 nb:N≠b
 np:N≠pb
theorem An.bH(h:An b pb N n p w)(k:FK b pb p p' w w'):An b pb N n p' w':=by
 have df:=ah h.aV;refine⟨by rw[k.block N df h.nb h.np h.rn h.rq];exact h.aV,λe=>?_,λe=>?_,h.nb,h.np⟩
 .rcases k.kQ N e with e'|e'
  .exact h.rn e'
  .omega
 .rcases k.lU N e with e'|e'
  .exact h.rq e'
  .omega
theorem An.set(h:An b pb N n p w)(c:Nat)(u:Value)(hu:(cA n).set c u=cA n'):An b pb N n' p (w.setCell ⟨N,c,M⟩ u):=by refine⟨?_,h.rn,h.rq,h.nb,h.np⟩;rw[ai h.aV c u,<-hu];simp
theorem FX.other{r:Except (Nat×Nat) Sp.Bs}(h:FX base b pb s r o p w)(x:An b pb N n p w)(c:Nat)(u:Value):FX base b pb s r o p (w.setCell ⟨N,c,M⟩ u):=by
 have hp:=h.prog;refine h.move (Æ _ _ _ _ (Ne.symm x.nb)) ⟨?_,?_,?_,hp.ge,hp.n5,hp.q5⟩
 .rw[Æ _ _ _ _ (Ne.symm x.np)];exact hp.aV
 .exact aY hp.kQ (λg hg=>Æ _ _ _ _ (λe=>x.rn (by rw[<-show g=N from e];exact hg)))
 .exact aY hp.lU (λg hg=>Æ _ _ _ _ (λe=>x.rq (by rw[<-show g=N from e];exact hg)))
theorem FK.new(h:FK b pb p p' w w')(hN:w.heap.size<=N)(c:Nat)(u:Value):FK b pb p p' w (w'.setCell ⟨N,c,M⟩ u):=
 ⟨h.os,h.tape,h.output,by have:=h.size;simp[World.setCell];omega,h.kQ,h.lU,λk hk h1 h2 h3 h4=>by rw[Æ _ _ _ _ (λe=>by have:k=N:=e;omega)];exact h.block k hk h1 h2 h3 h4⟩
structure iI(base b pb N:Nat)(s:ByteArray)(r:Except (Nat×Nat) Sp.Bs)(o:Int)(p0 p:FP)(w0:Wd)(n:aK)(w:Wd):Prop where
 fx:FX base b pb s r o p w
 fk:FK b pb p0 p w0 w
 box:An b pb N n p w
 new:w0.heap.size<=N
theorem iI.call{r r':Except (Nat×Nat) Sp.Bs}(h:iI base b pb N s r o p0 p w0 n w)(hx:FX base b pb s r' o' p' w')(hk:FK b pb p p' w w'):iI base b pb N s r' o' p0 p' w0 n w':=
 ⟨hx,h.fk.trans hk,h.box.bH hk,h.new⟩
theorem iI.set{r:Except (Nat×Nat) Sp.Bs}(h:iI base b pb N s r o p0 p w0 n w)(c:Nat)(u:Value)(hu:(cA n).set c u=cA n'):iI base b pb N s r o p0 p w0 n' (w.setCell ⟨N,c,M⟩ u):=
 ⟨h.fx.other h.box c u,h.fk.new h.new c u,h.box.set c u hu,h.new⟩
theorem iI.drew{r:Except (Nat×Nat) Sp.Bs}(h:iI base b pb N s r o p0 p w0 n w):iI base b pb N s r o p0 p w0 n w.drew:=
 ⟨h.fx.drew,h.fk.drew,⟨h.box.aV,h.box.rn,h.box.rq,h.box.nb,h.box.np⟩,h.new⟩
theorem An.cell(h:An b pb N n p w)(c:Nat){u:Value}(hu:(cA n)[c]?=Y u):w.cell? ⟨N,c,M⟩=Y u/\w.frozen? ⟨N,c,M⟩=false:=
 ⟨cell_of h.aV c (by simpa using hu),ay h.aV c⟩
theorem iI.start{r:Except (Nat×Nat) Sp.Bs}(n:aK)(hx:FX base b pb s r o p w)(hk:FK b pb p0 p w0 w):iI base b pb w.heap.size s r o p0 p w0 n (w.alloc (L (cA n).toArray 200)):=by
 have hB:ω w (w.alloc (L (cA n).toArray 200)):=(Å).alloc È _;obtain⟨_,_,_,_,_,hb⟩:=hx.OS;refine⟨hx.after hB,hk.trans (FK.aF hB),⟨heap_alloc_new _ _,λe=>?_,λe=>?_,?_,?_⟩,hk.size⟩
 .have:=(bk hx.prog.kQ _ e).2.1;omega
 .have:=(bk hx.prog.lU _ e).2.1;omega
 .have:=ah hb;omega
 .have:=ah hx.prog.aV;omega
theorem iI.facts{r:Except (Nat × Nat) Sp.Bs}(h:iI base b pb N s r o p0 p w0 n w)(hd:p.ns[j]?=Y d) :
  ∃g cap,p.nv=Z (Y ⟨g,0,M⟩) p.ns.length cap/\p.ns.length<=cap/\cap<=maxLen/\p.ns.length<=1000000/\j<p.ns.length/\w.cell? ⟨b,4,M⟩=Y (ρ (Y ⟨pb,0,M⟩))/\w.cell? ⟨pb,0,M⟩=Y (Z (Y ⟨g,0,M⟩) p.ns.length cap) /\
   (w.cell? ⟨N,0,M⟩=Y (I O n.kind)/\w.cell? ⟨N,1,M⟩=Y (I O n.a)/\w.cell? ⟨N,2,M⟩=Y (I O n.b)/\w.cell? ⟨N,3,M⟩=Y (I O n.c)/\w.cell? ⟨N,4,M⟩=Y (I O n.n)/\w.cell? ⟨N,5,M⟩=Y (I O n.next)/\w.cell? ⟨N,6,M⟩=Y (χ ⟨n.sign.toArray⟩)/\w.cell? ⟨N,7,M⟩=Y (I O n.site)/\w.cell? ⟨N,8,M⟩=Y (I O n.aA)/\w.cell? ⟨N,9,M⟩=Y (U n.els)) /\
   (w.cell? ⟨g,j*10,M⟩=Y (I O d.kind)/\w.cell? ⟨g,j*10+1,M⟩=Y (I O d.a)/\w.cell? ⟨g,j*10+2,M⟩=Y (I O d.b)/\w.cell? ⟨g,j*10+3,M⟩=Y (I O d.c)/\w.cell? ⟨g,j*10+4,M⟩=Y (I O d.n)/\w.cell? ⟨g,j*10+5,M⟩=Y (I O d.next)/\w.cell? ⟨g,j*10+6,M⟩=Y (χ ⟨d.sign.toArray⟩)/\w.cell? ⟨g,j*10+7,M⟩=Y (I O d.site)/\w.cell? ⟨g,j*10+8,M⟩=Y (I O d.aA)/\w.cell? ⟨g,j*10+9,M⟩=Y (U d.els)) /\
   (w.frozen? ⟨g,j*10,M⟩=false/\w.frozen? ⟨g,j*10+1,M⟩=false/\w.frozen? ⟨g,j*10+2,M⟩=false/\w.frozen? ⟨g,j*10+3,M⟩=false/\w.frozen? ⟨g,j*10+4,M⟩=false/\w.frozen? ⟨g,j*10+5,M⟩=false/\w.frozen? ⟨g,j*10+6,M⟩=false/\w.frozen? ⟨g,j*10+7,M⟩=false/\w.frozen? ⟨g,j*10+8,M⟩=false/\w.frozen? ⟨g,j*10+9,M⟩=false):=by
 have hj:=(Í.1 hd).1;have hp:=h.fx.prog;obtain⟨g,cap,hv,h1,h2⟩:=hp.slice À;obtain⟨_,_,_,_,_,hb⟩:=h.fx.OS;have c:=λ{c:Nat} {u:Value} (hc:c<10) (hu:(cA d)[c]?=Y u)=>hp.cells hv hd hc hu
 have e:=λ(c:Nat) {u:Value} (hu:(cA n)[c]?=Y u)=>(h.box.cell c hu).1
 refine⟨g,cap,hv,h1,h2,hp.n5,hj,cell_of hb 4 rfl,?_,⟨e 0 rfl,e 1 rfl,e 2 rfl,e 3 rfl,e 4 rfl,e 5 rfl,e 6 rfl,e 7 rfl,e 8 rfl,e 9 rfl⟩,⟨(c (c:=0) À rfl).1,(c (c:=1) À rfl).1,(c (c:=2) À rfl).1,(c (c:=3) À rfl).1,(c (c:=4) À rfl).1,(c (c:=5) À rfl).1,(c (c:=6) À rfl).1,(c (c:=7) À rfl).1,(c (c:=8) À rfl).1,(c (c:=9) À rfl).1⟩,⟨(c (c:=0) À rfl).2,(c (c:=1) À rfl).2,(c (c:=2) À rfl).2,(c (c:=3) À rfl).2,(c (c:=4) À rfl).2,(c (c:=5) À rfl).2,(c (c:=6) À rfl).2,(c (c:=7) À rfl).2,(c (c:=8) À rfl).2,(c (c:=9) À rfl).2⟩⟩;rw[<-hv];exact cell_of hp.aV 0 rfl
def tP(w:Wd)(g q:Nat)(n:aK):Wd:=(((((((((w.setCell ⟨g,q,M⟩ (I O n.kind)).setCell ⟨g,q+1,M⟩ (I O n.a)).setCell ⟨g,q+2,M⟩ (I O n.b)).setCell ⟨g,q+3,M⟩ (I O n.c)).setCell ⟨g,q+4,M⟩ (I O n.n)).setCell ⟨g,q+5,M⟩ (I O n.next)).setCell ⟨g,q+6,M⟩ (χ ⟨n.sign.toArray⟩)).setCell ⟨g,q+7,M⟩ (I O n.site)).setCell ⟨g,q+8,M⟩ (I O n.aA)).setCell ⟨g,q+9,M⟩ (U n.els)
theorem lC{r:Except (Nat × Nat) Sp.Bs}(h:FX base b pb s r o p w){g cap:Nat}(n:aK)(hv:p.nv=Z (Y ⟨g,0,M⟩) p.ns.length cap)(hd:p.ns[j]?=Y d) :
  FX base b pb s r o {p with ns:=p.ns.set j n} (tP w g (j*10) n)/\FK b pb p {p with ns:=p.ns.set j n} w (tP w g (j*10) n):=by
 have hj:=(Í.1 hd).1;have step:∀{p':FP} {w':Wd} {d1:aK} (c:Nat) (u:Value) (d2:aK),p'={ p with ns:=p.ns.set j d1 }->FX base b pb s r o p' w'/\FK b pb p p' w w'->c<10->(cA d1).set c u=cA d2 ->
   FX base b pb s r o {p with ns:=p.ns.set j d2} (w'.setCell ⟨g,j*10+c,M⟩ u)/\FK b pb p {p with ns:=p.ns.set j d2} w (w'.setCell ⟨g,j*10+c,M⟩ u):=by
  intro p' w' d1 c u d2 e hh hc hu;subst e;obtain⟨h1,k1⟩:=hh;obtain⟨h2,k2⟩:=h1.yU (j:=j) (c:=c) (u:=u) (d:=d1) (d':=d2) (by simpa using hv) (List.getElem?_set_self hj) hc hu;simp only[List.set_set]at h2 k2;exact⟨h2,k1.trans k2⟩
 obtain⟨h0,k0⟩:=h.yU (c:=0) (u:=I O n.kind) (d':={d with kind:=n.kind}) hv hd À rfl;have s1:=step 1 (I O n.a) {d with kind:=n.kind,a:=n.a} rfl ⟨h0,k0⟩ À rfl;have s2:=step 2 (I O n.b) {d with kind:=n.kind,a:=n.a,b:=n.b} rfl s1 À rfl;have s3:=step 3 (I O n.c) {d with kind:=n.kind,a:=n.a,b:=n.b,c:=n.c} rfl s2 À rfl;have s4:=step 4 (I O n.n) {d with kind:=n.kind,a:=n.a,b:=n.b,c:=n.c,n:=n.n} rfl s3 À rfl;have s5:=step 5 (I O n.next) {d with kind:=n.kind,a:=n.a,b:=n.b,c:=n.c,n:=n.n,next:=n.next} rfl s4 À rfl;have s6:=step 6 (χ ⟨n.sign.toArray⟩) {d with kind:=n.kind,a:=n.a,b:=n.b,c:=n.c,n:=n.n,next:=n.next,sign:=n.sign} rfl s5 À rfl;have s7:=step 7 (I O n.site) {n with aA:=d.aA,els:=d.els} rfl s6 À rfl;have s8:=step 8 (I O n.aA) {n with els:=d.els} rfl s7 À rfl;exact step 9 (U n.els) n rfl s8 À rfl
end
end
section
theorem E5(base b pb:Nat)(s:ByteArray):A9 130 base b pb s 0:=by
 intro er p w h;obtain⟨q,t,c6,hz,ff,c3⟩:=h.asks;go_enter func130,ntmps130;go_wp2_with fail;refine(B9 base b pb s er p w h).mono ?_;rintro e w1⟨rfl,rfl⟩;go_wp2_with fail
 go_loopw [3] (λa wr=>a=I O 0/\wr=w1) (λ_ _=>0)
 case atStart=>exact⟨rfl,rfl⟩
 case round=>
  obtain⟨rfl,rfl⟩:=hrel;go_wp2_with fail;go_ret;exact⟨rfl,rfl⟩
theorem yB(base b pb:Nat)(s:ByteArray)(o n:Nat)(u:Sp.Bs->Sp.R Sm)(da:∀l x l1,u l=.ok (x,l1)->l1.length<=l.length)(hr:mH 172 base b pb s o n u):mH 130 base b pb s o n (bS Tr 0 u):=by
 intro l p w hl h hlim;have HR:=hid hr;have HD:Hid (∀l x l1,u l=.ok (x,l1)->l1.length<=l.length):=da;clear hr da;go_enter func130,ntmps130;go_wp2_with fail;refine(HR.out l p w hl h hlim).mono ?_;rintro e w1⟨k,p1,rfl,h1,k1,g1⟩;have HC:Hid (Cd base b pb s o p l w 0 u (bS Tr 0 u l) k w1):=⟨u l,p1,h1,k1,g1,vO⟩;clear h1 k1 g1 h;go_wp2_with fail
 go_loopw [3] (λa wr=>∃k:Int,a=I O k/\Hid (Cd base b pb s o p l w 0 u (bS Tr 0 u l) k wr)) (λ_ wr=>oX b s wr)
 case atStart=>exact⟨k,rfl,HC⟩
 case round=>
  obtain⟨k,rfl,nK⟩:=hrel;obtain⟨cur,pc,hx,hk,hg,wM⟩:=nK.out
  rcases cur with er|⟨x,lc⟩
  .obtain⟨q,t,c6,hz,ff,c3⟩:=FE.asks (show FE base b pb s er pc wr from hx)
   have HF:Hid (jA base b pb s o p l w (bS Tr 0 u l) (υ (I O k)) wr):=by unfold Hid;rw[vw wM];exact⟨k,pc,rfl,hx,hk,hg⟩
   clear hx hk hg wM nK HC;go_wp2_with fail;go_ret;exact HF.out
  .have fg:FR base b pb s lc (o:Int) pc wr:=hx
   obtain⟨c6,c3,ea,xP⟩:=fg.asks;by_cases iM:Sp.tok lc=[43]∨Sp.tok lc=[45]
   .have hlc:lc.length<=l.length:=by have:=hg.1.nl;have:=hg.1.len;omega
    have QI:Hid (fu pc lc):=hg.1.Gf hlim;have HW:=hid fg.rest
    rcases iM with ht|ht
    .have iM:eA (Sp.tok lc)=Y 0:=by rw[ht];rfl
     have HG:Hid (iQ p pc l k (.ok (x,lc))/\eA (Sp.tok lc)=Y 0/\Sp.tok lc=[43]/\lE 0 u (bS Tr 0 u l) (roundOf 0 x (u (Sp.next lc)))):=⟨hg,iM,ht,lu wM iM rfl HD.out⟩;have fD:=fZ iM;have HL:Hid (fu pc (Sp.next lc)):=(bV.z8 À).Gf QI.out;rw[ht]at c3;clear iM ht ea wM hg hx nK HC QI;go_wp2_with fail;refine(ek fg).mono ?_;rintro e w2⟨rfl,h2,k2⟩;go_wp2_with fail;refine(HR.out (Sp.next lc) pc w2 À h2 HL.out).mono ?_;rintro e w3⟨k3,p3,rfl,h3,Ge,g3⟩;have jm:=qJ g3 HL.out;have H3:Hid (_/\_/\_):=⟨h3,Ge,g3⟩;clear h3 Ge g3;go_wp2_with fail;refine(nD H3.1 k k3 (-1) [43] jm).mono ?_;rintro e w4⟨rfl,v,h4,k4⟩;have π:=mW (v:=v) (n:={kind:=4,a:=k,b:=k3,sign:=[43],site:=(-1)}) HG.1 HG.2.1 rfl rfl rfl H3.2.2 rfl rfl rfl HG.2.2.1.symm rfl;have Dy:FX base b pb s (left (roundOf 0 x (u (Sp.next lc)))) (o:Int) _ w4:=kW h4;have cP:=Dy.qu (m:=lc.length) (λy l' e=>mR HD.out HG.2.1 e);have xx:Hid (Cd base b pb s o p l w 0 u (bS Tr 0 u l) (p3.ns.length:Nat) w4):=⟨_,_,Dy,((hk.trans k2).trans H3.2.1).trans k4,π,HG.2.2.2⟩;clear π Dy h4 k4;go_wp2_with fail;exact⟨⟨_,rfl,xx⟩,by rw[HW.out];omega⟩
    .have iM:eA (Sp.tok lc)=Y 1:=by rw[ht];rfl
     have HG:Hid (iQ p pc l k (.ok (x,lc))/\eA (Sp.tok lc)=Y 1/\Sp.tok lc=[45]/\lE 0 u (bS Tr 0 u l) (roundOf 1 x (u (Sp.next lc)))):=⟨hg,iM,ht,lu wM iM rfl HD.out⟩;have fD:=fZ iM;have HL:Hid (fu pc (Sp.next lc)):=(bV.z8 À).Gf QI.out;rw[ht]at c3;clear iM ht ea wM hg hx nK HC QI;go_wp2_with fail;refine(ek fg).mono ?_;rintro e w2⟨rfl,h2,k2⟩;go_wp2_with fail;refine(HR.out (Sp.next lc) pc w2 À h2 HL.out).mono ?_;rintro e w3⟨k3,p3,rfl,h3,Ge,g3⟩;have jm:=qJ g3 HL.out;have H3:Hid (_/\_/\_):=⟨h3,Ge,g3⟩;clear h3 Ge g3;go_wp2_with fail;refine(nD H3.1 k k3 (-1) [45] jm).mono ?_;rintro e w4⟨rfl,v,h4,k4⟩;have π:=mW (v:=v) (n:={kind:=4,a:=k,b:=k3,sign:=[45],site:=(-1)}) HG.1 HG.2.1 rfl rfl rfl H3.2.2 rfl rfl rfl HG.2.2.1.symm rfl;have Dy:FX base b pb s (left (roundOf 1 x (u (Sp.next lc)))) (o:Int) _ w4:=kW h4;have cP:=Dy.qu (m:=lc.length) (λy l' e=>mR HD.out HG.2.1 e);have xx:Hid (Cd base b pb s o p l w 0 u (bS Tr 0 u l) (p3.ns.length:Nat) w4):=⟨_,_,Dy,((hk.trans k2).trans H3.2.1).trans k4,π,HG.2.2.2⟩;clear π Dy h4 k4;go_wp2_with fail;exact⟨⟨_,rfl,xx⟩,by rw[HW.out];omega⟩
   .have im:Hid (bS Tr 0 u l=.ok (x,lc)):=yi wM (λop ho=>by
     unfold eA at ho;rw[Â (λe=>iM (.inl e)),Â (λe=>iM (.inr e))]at ho
     repeat' split at ho
     all_goals first|(cases ho;simp[cT])|cases ho)
    have HF:Hid (jA base b pb s o p l w (bS Tr 0 u l) (υ (I O k)) wr):=by unfold Hid;rw[im.out];exact⟨k,pc,rfl,hx,hk,hg⟩
    have n1:((⟨(Sp.tok lc).toArray⟩:ByteArray).toList==[43])=false:=by rw[ByteArray.toList_eq];simpa usingλe=>iM (.inl e)
    have n2:((⟨(Sp.tok lc).toArray⟩:ByteArray).toList==[45])=false:=by rw[ByteArray.toList_eq];simpa usingλe=>iM (.inr e)
    generalize (⟨(Sp.tok lc).toArray⟩:ByteArray)=t at*;clear hx hk hg wM nK HC iM fg;go_wp2_with fail;go_ret;exact HF.out
end
section
theorem E8{base b pb:Nat}{s:ByteArray}{o:Nat}{u:Sp.Bs->Sp.R Sm}{p p1:FP}{l:Sp.Bs}{k:Int}{w w':Wd}
  (g:∀l1,Sp.enter [40] o l=.ok l1->iQ p p1 l1 k (u l1)) (he:∀e,Sp.enter [40] o l=.error e->p1=p) (ht:Sp.tok l=[40])
  (h5:FX base b pb s (((Sp.enter [40] o l).bind λl=>left (u l)).bind (Sp.take [41])) (o:Int) p1 w') (k5:FK b pb p p1 w w'):
  jA base b pb s o p l w (cp Tr u o l) (υ (I O k)) w':=by
 have fD:=aJ ht Ä;refine⟨_,_,rfl,?_,k5,?_⟩
 .cases hq:Sp.enter [40] o l with
  |error e=>rw[hq]at h5;unfold cp;rw[hq];exact h5
  |ok l1=>
   rw[hq]at h5;unfold cp;rw[hq];simp only[Except.bind]at h5⊢;cases hu:u l1 with
   |error e=>rw[hu]at h5;exact h5
   |ok xl=>
    rw[hu]at h5;simp only[left]at h5⊢;cases Dr:Sp.take [41] xl.2 with
    |error e=>rw[Dr]at h5;exact h5
    |ok l3=>rw[Dr]at h5;exact h5
 .cases hq:Sp.enter [40] o l with
  |error e=>unfold cp;rw[hq];show dD p p1 l;rw[he e hq];exact dD.refl _ _
  |ok l1=>
   obtain⟨_,_,xS⟩:=cI hq;have g1:=g l1 hq;unfold cp;rw[hq];simp only;cases hu:u l1 with
   |error e=>rw[hu]at g1;exact dD.more (l1:=l1) g1 (by rw[xS];omega)
   |ok xl=>
    obtain⟨x,l2⟩:=xl;rw[hu]at g1;obtain⟨m1,hj,zU⟩:=g1;have hm:bV p p1 l l2:=(bV.z8 (by rw[xS];omega)).trans m1;simp only;cases Dr:Sp.take [41] l2 with
    |error e=>exact dD.tD hm
    |ok l3=>obtain⟨_,h3⟩:=cd Dr;exact⟨hm.trans (bV.z8 (by rw[h3];exact cr _)),hj,zU⟩
theorem Aj(base b pb:Nat)(s:ByteArray)(o n:Nat)(ho:o<=12)(hr:o<12->mH 130 base b pb s (o+1) n (oI Tr (bp Tr n (o+1))))(hi:A9 130 base b pb s 0)
  (l:Sp.Bs) (p:FP) (w:Wd) (hl:l.length<n+1) (h:FR base b pb s l (o:Int) p w) (hlim:fu p l) (ht:Sp.tok l=[40]):
  Calls prog 204 #[ρ (Y ⟨b,0,M⟩)] w (jA base b pb s o p l w (bp Tr (n+1) o l)):=by
 obtain⟨c6,c3,ea,xP⟩:=h.asks;have hE:Hid (bp Tr (n+1) o l=cp Tr (oI Tr (bp Tr n (o+1))) o l):=by unfold Hid;rw[gu,Â (oA ht).1,Â (oA ht).2,Â (by rw[ht];simp)]
 have HN:Hid (∀w,Calls prog 124 #[χ ⟨[40].toArray⟩] w λe w'=>e=υ (U (aS l).isSome)/\w'=w):=by rw[<-ht];exact dw l xP
 have fD:=aJ ht Ä;rw[ht]at c3 ea;have Tl:Hid (∀l1,Sp.enter [40] o l=.ok l1->l1=Sp.next l/\o<12):=λl1 e=>by obtain⟨_,h2,h3⟩:=cI e;exact⟨h3,À⟩
 have HR:=hid hr;have HI:=hid hi;have HT:=hid ht;clear hr ht hi;go_enter func204,ntmps204;go_wp2_with fail;refine(gS _ ea _).mono ?_;rintro e w1⟨rfl,rfl⟩;go_wp2_with fail;refine(HN.out _).mono ?_;rintro e w1⟨rfl,rfl⟩;go_wp2_with fail;refine(CT ho h [40]).mono ?_;rintro e w2⟨rfl,h2,k2⟩;go_wp2_with fail;refine(zw (o:=o+1) (n:=n) (u:=oI Tr (bp Tr n (o+1))) (λl1 e1=>by obtain⟨e2,e3⟩:=Tl.out l1 e1;refine⟨HR.out e3,by rw[e2];omega,?_⟩;rw[e2];exact(bV.z8 À).Gf hlim) HI.out h2).mono ?_;rintro e w3⟨k,p1,rfl,h3,k3,g3,e3⟩;have G3:=hid (And.intro g3 e3);clear g3 e3;go_wp2_with fail;refine(JU À h3 [41]).mono ?_;rintro e w4⟨rfl,h4,k4⟩;go_wp2_with fail;go_ret;rw[hE.out];exact E8 G3.1 G3.2 HT.out h4 ((k2.trans k3).trans k4)
theorem Hh(base b pb:Nat)(s:ByteArray)(o n:Nat)
  (l:Sp.Bs) (p:FP) (w:Wd) (h:FR base b pb s l (o:Int) p w) (hlim:fu p l) (kk:Nat) (hv:aS l=Y kk):
  Calls prog 204 #[ρ (Y ⟨b,0,M⟩)] w (jA base b pb s o p l w (bp Tr (n+1) o l)):=by
 obtain⟨c6,c3,ea,xP⟩:=h.asks;obtain⟨c,ht,qq,F8,px,rfl⟩:=dY hv;have hE:Hid (bp Tr (n+1) o l=.ok (.name (c.toNat-97),Sp.next l)):=by unfold Hid;rw[gu,Â À,Á qq,jC hv];rfl
 have hfv:Hid (ph [c]=-1):=by unfold Hid;rw[<-ht];exact y4 À
 have HN:Hid (∀w,Calls prog 124 #[χ ⟨[c].toArray⟩] w λe w'=>e=υ (U true)/\w'=w):=by have:=dw l xP;rw[ht,hv]at this;exact this
 have fD:=aJ ht Ä;obtain⟨t,et,jW,hx⟩:=pO c;have HV:Hid (∀w,Calls prog 223 #[χ t] w λe w'=>e=υ (I O (-1))/\w'=w):=by intro w;have:=gS t À w;rw[et]at this⊢;rw[show(⟨[c].toArray⟩:ByteArray).data.toList=[c] from rfl,hfv.out]at this;exact this
 rw[ht,<-et]at c3;rw[<-et]at HN;have h0:0<t.size:=À;have xy:(97:Int)<=(t[0].toNat:Int)/\(t[0].toNat:Int)<=104:=by rw[hx];omega
 have aW:Hid (((c.toNat-97:Nat):Int)=(t[0].toNat:Int)-97):=by unfold Hid;rw[hx];omega
 have WK:(t.toList==[45])=false/\(t.toList==[40])=false:=by
  rw[ByteArray.toList_eq,et];constructor
  .simp;intro e;subst e;simp at px
  .simp;intro e;subst e;simp at px
 obtain⟨nd1,nd2⟩:=WK;clear hx et ht hv qq ea;go_enter func204,ntmps204;go_wp2_with fail;refine(HV.out _).mono ?_;rintro e w1⟨rfl,rfl⟩;go_wp2_with fail;refine(HN.out _).mono ?_;rintro e w1⟨rfl,rfl⟩;go_wp2_with fail;refine(ek h).mono ?_;rintro e w2⟨rfl,h2,k2⟩;go_wp2_with fail;refine(eU (r:=.ok (Sp.next l)) h2 {kind:=2,n:=(t[0].toNat:Int)-97} (by have:=hlim.1;omega)).mono ?_;rintro e w3⟨rfl,v,h3,k3⟩;go_wp2_with fail;go_ret;rw[hE.out];have hm:bV p p l (Sp.next l):=bV.z8 À;refine⟨_,_,rfl,h3,k2.trans k3,hm.node _ v À,⟨p.ns.length,rfl,Ä,?_⟩,by show p.qs=p.qs++[];simp⟩;exact⟨_,by simp;rfl,rfl,by rw[aW.out],À,È,rfl⟩
end
end Go.Proofs.YtiopfihjmkfdmabGreatDoor
