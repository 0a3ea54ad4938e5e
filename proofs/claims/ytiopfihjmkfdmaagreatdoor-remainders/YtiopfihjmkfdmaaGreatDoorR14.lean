import Derived.Test.YtiopfihjmkfdmaaGreatDoorR13
import Derived.Deep.Cut
namespace Go.Proofs.YtiopfihjmkfdmaaGreatDoor
open Go.Value renaming int→I,bool→U,pointer→ρ,string→χ,tuple→φ,slice→Z
open Go.IntKind renaming i64→O
open Option renaming none→M,some→Y
open Go.Ending renaming returned→υ
open Go.Obj renaming cells→L
open Go.Proofs.Tryz Sp
open Go.RowKit
set_option maxRecDepth 100000
set_option maxHeartbeats 16000000
section
theorem tV(base b pb:Nat)(s:ByteArray)(o n:Nat)
  (l:Sp.Bs) (p:FP) (w:Wd) (h:FR base b pb s l (o:Int) p w) (TI:Sp.tok l≠[45]) (Tc:Sp.tok l≠[40]) (hf:oe (Sp.tok l)=-1) (hv:aQ l=M) (hE:Hid (bk Tr (n+1) o l=.error (2,l.length))) :
  Calls prog 210 #[ρ (Y ⟨b,0,M⟩)] w (iR base b pb s o p l w (bk Tr (n+1) o l)):=by
 obtain⟨c6,c3,dC,vu⟩:=h.asks;have HN:Hid (∀w,Calls prog 129 #[χ ⟨(Sp.tok l).toArray⟩] w fun e w'=>e=υ (U false)/\w'=w):=by have:=cZ l vu;rw[hv]at this;exact this
 have HV:Hid (∀w,Calls prog 238 #[χ ⟨(Sp.tok l).toArray⟩] w fun e w'=>e=υ (I O (-1))/\w'=w):=by intro w;have:=gj _ dC w;rw[show(⟨(Sp.tok l).toArray⟩:ByteArray).data.toList=Sp.tok l from rfl,hf]at this;exact this
 have nd1:((⟨(Sp.tok l).toArray⟩:ByteArray).toList == [45])=false:=by rw[ByteArray.toList_eq];simpa using TI
 have nd2:((⟨(Sp.tok l).toArray⟩:ByteArray).toList == [40])=false:=by rw[ByteArray.toList_eq];simpa using Tc
 clear dC TI Tc hf hv;generalize (⟨(Sp.tok l).toArray⟩:ByteArray)=t at *;go_enter func210,ntmps210;go_wp2_with fail;refine(HV.out _).mono ?_;rintro e w1⟨rfl,rfl⟩;go_wp2_with fail;refine(HN.out _).mono ?_;rintro e w1⟨rfl,rfl⟩;go_wp2_with fail;refine(oR h 2 (by decide) 2 rfl).mono ?_;rintro e w2⟨rfl,h2,k2⟩;go_wp2_with fail;go_ret;rw[hE.out];exact⟨_,p,rfl,h2,k2,dh.refl _ _⟩
attribute [local go_sem ↓] Go.wp_at_zero Go.wp_at_succ
theorem AF(base b pb:Nat)(s:ByteArray)(o n:Nat)
  (l:Sp.Bs) (p:FP) (w:Wd) (h:FR base b pb s l (o:Int) p w) (hlim:eI p l) (hk:aC l=3) (v:Nat) (hv:gA (Sp.tok l)=Y v) :
  Calls prog 210 #[ρ (Y ⟨b,0,M⟩)] w (iR base b pb s o p l w (bk Tr (n+1) o l)):=by
 obtain⟨i0,hi,KD,jm,gU⟩:=info_parts VG;obtain⟨c6,c3,dC,vu⟩:=h.asks;have hE:Hid (bk Tr (n+1) o l=.ok (.num v,Sp.next l)):=by unfold Hid;rw[gd,if_pos hk,hv];rfl
 have hf:oe (Sp.tok l)=(v:Int):=by rw[tD hk,hv]
 have X5:aQ l=M:=by
  cases hq:aQ l with
  | none=>rfl
  | some q=>have:=ff hq;omega
 have Tk:v<=32767:=by obtain⟨_,h1,h2⟩:=oN hv;omega
 have HN:Hid (∀w,Calls prog 129 #[χ ⟨(Sp.tok l).toArray⟩] w fun e w'=>e=υ (U false)/\w'=w):=by have:=cZ l vu;rw[X5]at this;exact this
 have HV:Hid (∀w,Calls prog 238 #[χ ⟨(Sp.tok l).toArray⟩] w fun e w'=>e=υ (I O (v:Int))/\w'=w):=by intro w;have:=gj _ dC w;rw[show(⟨(Sp.tok l).toArray⟩:ByteArray).data.toList=Sp.tok l from rfl,hf]at this;exact this
 have nd1:((⟨(Sp.tok l).toArray⟩:ByteArray).toList == [45])=false:=by rw[ByteArray.toList_eq];simp;intro e;exact(qJ e).1 hk
 have nd2:((⟨(Sp.tok l).toArray⟩:ByteArray).toList == [40])=false:=by rw[ByteArray.toList_eq];simp;intro e;exact(nG e).1 hk
 have eO:(Sp.next l).length<l.length:=gm (dP (.inr (.inl hk)));clear dC hf hv X5 hk;generalize (⟨(Sp.tok l).toArray⟩:ByteArray)=t at *;go_enter func210,ntmps210;go_wp2_with fail;refine(HV.out _).mono ?_;rintro e w1⟨rfl,rfl⟩;go_wp2_with fail;refine(HN.out _).mono ?_;rintro e w1⟨rfl,rfl⟩;go_wp2_with fail;refine(dJ h).mono ?_;rintro e w2⟨rfl,h2,k2⟩;have hp:=h2.prog;have d4:=cell_of h2.aT 4 (v:=ρ (Y ⟨pb,0,M⟩)) rfl;have d0:=cell_of hp.aT 4 (v:=p.qv) rfl;have f0:=aw hp.aT 4;have Gk:pb<w2.heap.size:=ad hp.aT;have xS:b<w2.heap.size:=ad h2.aT;have ag:p.qv.ownBlock≠Y pb:=(hp.dE hp.aT kZ).2;have ab:p.qv.ownBlock≠Y b:=(hp.dE h2.aT jZ).2;have WZ:=hp.kU;have mL:=hp.ge;have DV:p.qs.length+1<=2000:=by have:=hlim.2.1;omega
 have UJ:p.qs.length+1<=maxLen:=by unfold maxLen;omega
 have hby:(p.qs.length+1)*8<=140737488355328:=by omega
 clear hp;go_wp2_with fail
 go_region_law
  ((refine step_append_lies _ (by rfl) _ _ _ (by rfl) base 3 i0 _ 1 8 underlying35 hi KD jm gU rfl (by omega) p.qv p.qs.length (p.qs.map fun n=>Value.int O n) (by rfl) ((WZ.alloc _).drew)
     ⟨w2.heap.size,0,M⟩ 1 1 [I O (v:Int)] (by rfl) (by rfl) (World.news_of_block (cs:=#[I O (v:Int)]) (t:=3) (fr:=(0,0)) (heap_alloc_new w2 _)) (by simp[Value.oneCell'])
     (by omega) UJ hby (by simp;omega) (w2.heap.size+1) (by simp) ?_;intro gg cap w3 sd o8 z6 cR;have f1:w3.frozen? ⟨pb,4,M⟩=false:=(by rw[o8.frozen_far _ (by simp;omega) (Ne.symm ag)];exact rp Gk f0);have e1:w3.cell? ⟨pb,4,M⟩=Y p.qv:=(by rw[o8.cell_far _ (by simp;omega) (Ne.symm ag)];exact nw Gk d0);have e4:w3.cell? ⟨b,4,M⟩=Y (ρ (Y ⟨pb,0,M⟩)):=(by rw[o8.cell_far _ (by simp;omega) (Ne.symm ab)];exact nw xS d4)))
 all_goals
  have HF:=Df (r:=.ok (Sp.next l)) h2 (by omega) (v:Int) sd o8 z6;have HH:=hid HF;clear HF sd o8 z6 cR;go_wp2_with fail;refine(eF HH.1 { kind:=1,n:=(v:Int) } (by have:=hlim.1;show p.ns.length+1<=_;omega)).mono ?_;rintro e w5⟨rfl,v5,h5,k5⟩;go_wp2_with fail;go_ret;rw[hE.out];refine⟨_,_,rfl,h5,(k2.trans HH.2).trans k5,⟨⟨_,rfl⟩,by simp;omega,by simp;omega,id⟩,⟨p.ns.length,rfl,by simp,?_⟩,rfl⟩;exact⟨_,by simp;rfl,rfl,rfl,Tk,Nat.le_refl _,rfl⟩
end
section
def zL(base pb:Nat)(t:Bl)(w:Wd):Prop :=
 ∃(p:FP) (first:Int) (ct:Ct),w.heap[pb]?=Y (L (cM p first) 105)/\w.ownsRow base 176 10 p.nv p.ns.length (fW p.ns)/\w.ownsRow base 3 1 p.qv p.qs.length (p.qs.map fun n=>I O n) /\
  p.ns.length<=2000/\p.qs.length<=2000/\jw p.ns 0 p.ns.length t first (0,0) ct/\p.ct=Sp.aA ct/\In64 ct.1/\p.qs=cW t
def gY(s:ByteArray)(w:Wd)(e:Ending)(w':Wd):Prop:=ω w w'/\match Sp.tree s.data.toList with
 | .ok t=>∃pb,e=υ (φ #[ρ (Y ⟨pb,0,M⟩),I O 0,I O 0])/\w.heap.size<=pb/\zL w.heap.size pb t w'
 | .error er=>e=υ (φ #[ρ M,I O er.1,I O er.2])
def BP:FP:={ ns:=[],ct:=(0,0),qs:=[],nv:=Z M 0 0,qv:=Z M 0 0 }
theorem KV{w:Wd}{pb:Nat}{p:FP}{first:Int}(h:Bk w pb (cM p first) 105)(n:Int):(w.setCell ⟨pb,1,M⟩ (I O n)).heap[pb]?=Y (L (cM p n) 105):=by rw[ah h 1 (I O n)];rfl
theorem B8(w:Wd)(s:ByteArray)(hs:s.size<=400){w1 w3:Wd}(ZA:w1=(w.alloc (L (cM BP 0) 105)).alloc (L (cc s 0 0 ByteArray.empty w.heap.size 0 0) 174))(hx:nB (w.heap.size+1) w1 w3)
  (hb:w3.heap[w.heap.size+1]?=Y (L (cc s ((s.size - (Sp.skip s.data.toList).length+aZ (Sp.skip s.data.toList):Nat):Int) ((s.size - (Sp.skip s.data.toList).length:Nat):Int) ⟨(Sp.tok (Sp.skip s.data.toList)).toArray⟩ w.heap.size 0 0) 174)) :
  FR w.heap.size (w.heap.size+1) w.heap.size s (Sp.skip s.data.toList) 0 BP w3/\ω w w3:=by
 have h1:w1.heap.size=w.heap.size+2:=by subst ZA;simp
 have hp:w1.heap[w.heap.size]?=Y (L (cM BP 0) 105):=by subst ZA;rw[Below.heap_alloc _ _ _ (by simp)];exact heap_alloc_new _ _
 have qW:ω w w1:=by subst ZA;exact((Below.refl _ _).alloc (Nat.le_refl _) _).alloc (by simp) _
 refine⟨⟨hb,⟨?_,World.ownsRow_nil _ _ _ _,World.ownsRow_nil _ _ _ _,Nat.le_refl _,by simp[BP],by simp[BP]⟩,ly _,hs,by omega,by omega⟩,?_⟩
 ·rw[hx.block _ (by omega) (by omega)];exact hp
 ·refine⟨hx.os.trans qW.os,hx.tape.trans qW.tape,hx.output.trans qW.output,by have:=hx.size;have:=qW.size;omega,fun k hk=>?_⟩
  rw[hx.block k (by omega) (by omega)];exact qW.block k hk
end
section
section
variable{j c base sz n i g cap b pb:Nat}
variable{d d':aH}
variable{u:Value}
variable{w:Wd}
variable{xs:List Value}
variable{s:ByteArray}
variable{p:FP}
theorem iL:∀(ns:List aH) (j c:Nat),c<10->(fW ns)[10*j+c]?=(ns[j]?).bind fun d=>(cm d)[c]?
 | [],j,c,_=>by simp[fW]
 | d :: ns,0,c,hc=>by show(cm d ++ fW ns)[10*0+c]?=_;rw[List.getElem?_append_left (by show _<10;omega)];simp
 | d :: ns,j+1,c,hc=>by show(cm d ++ fW ns)[10*(j+1)+c]?=_;rw[List.getElem?_append_right (by show 10<=_;omega)];rw[show 10*(j+1)+c - (cm d).length=10*j+c by show _ - 10=_;omega,iL ns j c hc];simp
theorem Fb(ns:List aH):(fW ns).length=ns.length*10:=by
 induction ns with
 | nil=>rfl
 | cons d ns ih=>show(cm d ++ fW ns).length=_;rw[List.length_append,ih];show 10+_=_;simp;omega
theorem EI{ns:List aH}(hd:ns[j]?=Y d)(hc:c<10)(hu:(cm d).set c u=cm d'):(fW ns).set (10*j+c) u=fW (ns.set j d'):=by
 apply List.ext_getElem?;intro m;have em:m=10*(m / 10)+m % 10:=by omega
 have hm:m % 10<10:=Nat.mod_lt _ (by omega);have hj:j<ns.length:=(List.getElem?_eq_some_iff.1 hd).1;rw[em,iL _ _ _ hm,List.getElem?_set,List.getElem?_set];by_cases e:j=m / 10
 ·subst e
  rw[if_pos rfl,if_pos hj];have h1:=congrArg (fun l:List Value=>l[m % 10]?) hu;simp only[List.getElem?_set]at h1;by_cases ec:c=m % 10
  ·subst ec
   rw[if_pos rfl,if_pos (by rw[Fb];omega)];rw[if_pos rfl,if_pos (by show _<10;omega)]at h1;simpa using h1
  ·rw[if_neg (by omega),iL _ _ _ hm,hd]
   rw[if_neg ec]at h1;simpa using h1
 ·rw[if_neg (by omega),if_neg e,iL _ _ _ hm]
theorem DO{e:TypeId}(h:w.ownsRow base e sz (Z (Y ⟨g,0,M⟩) n cap) n xs)(u:Value)(_hi:i<n*sz):(w.setCell ⟨g,i,M⟩ u).ownsRow base e sz (Z (Y ⟨g,0,M⟩) n cap) n (xs.set i u):=by
 obtain⟨h1,h2⟩:=h;refine⟨by simpa using h1,.inr ?_⟩
 rcases h2 with⟨h2,_⟩ | ⟨g',aaq,cur,hv,hg,hb,h3,h4,h5,h6⟩
 ·cases h2
 ·cases hv
  refine⟨g,cap,cur.setIfInBounds i u,rfl,hg,ah hb i u,h3,h4,by simpa using h5,?_⟩;rw[Array.toList_setIfInBounds,List.take_set,h6]
theorem ni{e:TypeId}(h:w.ownsRow base e sz (Z (Y ⟨g,0,M⟩) n cap) n xs)(hu:xs[i]?=Y u):w.cell? ⟨g,i,M⟩=Y u/\w.frozen? ⟨g,i,M⟩=false:=by
 obtain⟨h1,h2⟩:=h
 rcases h2 with⟨h2,_⟩ | ⟨g',aaq,cur,hv,hg,hb,h3,h4,h5,h6⟩
 ·cases h2
 ·cases hv
  refine⟨cell_of hb i ?_,aw hb i⟩;rw[<-h6]at hu;have cR:=(List.getElem?_eq_some_iff.1 hu).1;have:i<n*sz:=by simp at cR;omega
  rw[List.getElem?_take_of_lt this]at hu;simpa using hu
theorem FX.wN{r:Except (Nat × Nat) Sp.Bs}{o:Int}(h:FX base b pb s r o p w)(hv:p.nv=Z (Y ⟨g,0,M⟩) p.ns.length cap)(hd:p.ns[j]?=Y d)(hc:c<10)(hu:(cm d).set c u=cm d') :
  FX base b pb s r o { p with ns:=p.ns.set j d' } (w.setCell ⟨g,j*10+c,M⟩ u)/\FK b pb p { p with ns:=p.ns.set j d' } w (w.setCell ⟨g,j*10+c,M⟩ u):=by
 have hp:=h.prog;obtain⟨i,a,t,o',er,hb⟩:=h.KZ;have hj:j<p.ns.length:=(List.getElem?_eq_some_iff.1 hd).1;have YO:p.nv.ownBlock=Y g:=by rw[hv];rfl
 have KI:=hp.dE hp.aT kZ;have eg:=hp.dE hb jZ;have h1:pb≠g:=fun e=>KI.1 (by rw[e];exact YO)
 have h2:b≠g:=fun e=>eg.1 (by rw[e];exact YO)
 refine⟨h.move (Below.heap_setCell _ _ _ _ h2) ⟨?_,?_,?_,hp.ge,by simpa using hp.n5,hp.q5⟩,rfl,rfl,rfl,by simp[World.setCell],fun _ e=>.inl e,fun _ e=>.inl e,?_⟩
 ·rw[Below.heap_setCell _ _ _ _ h1];exact hp.aT
 ·show World.ownsRow _ base 176 10 p.nv (p.ns.set j d').length (fW (p.ns.set j d'))
  have hr:=hp.jS;rw[hv]at hr ⊢;rw[<-EI hd hc hu,List.length_set,Nat.mul_comm 10 j];exact DO hr u (by omega)
 ·exact aY hp.kU (fun q hq=>Below.heap_setCell _ _ _ _ (fun e=>hp.qx g YO (by rw[<-show q=g from e];exact hq)))
 ·intro k hk _ _ h3 _
  exact Below.heap_setCell _ _ _ _ (fun e=>h3 (by rw[show k=g from e];exact YO))
theorem lG.slice(h:lG base pb p w)(hn:0<p.ns.length):∃g cap,p.nv=Z (Y ⟨g,0,M⟩) p.ns.length cap/\p.ns.length<=cap/\cap<=maxLen:=by
 rcases h.jS.2 with⟨_,h2⟩ | ⟨g,cap,cur,hv,_,_,h3,h4,_⟩
 ·omega
 ·exact⟨g,cap,hv,h3,h4⟩
theorem lG.cells(h:lG base pb p w)(hv:p.nv=Z (Y ⟨g,0,M⟩) p.ns.length cap)(hd:p.ns[j]?=Y d)(hc:c<10)(hu:(cm d)[c]?=Y u):w.cell? ⟨g,j*10+c,M⟩=Y u/\w.frozen? ⟨g,j*10+c,M⟩=false:=by have hr:=h.jS;rw[hv]at hr;exact ni hr (by rw[Nat.mul_comm j 10,iL _ _ _ hc,hd];exact hu)
theorem DN{l:Sp.Bs}{o:Int}(h:FR base b pb s l o p w) :
  Calls prog 131 #[ρ (Y ⟨b,0,M⟩)] w fun e w'=>∃k:Int,e=υ (I O k)/\FX base b pb s (left (dG l)) o p w'/\FK b pb p p w w'/\∀kk,aQ l=Y kk->k=(kk:Int):=by
 obtain⟨c6,c3,dC,vu⟩:=h.asks;cases hv:aQ l with
 | some kk =>
  obtain⟨c,ht,gC,D5,so,rfl⟩:=dD hv;have hE:Hid (dG l=.ok (c.toNat - 97,Sp.next l)):=iG hv;have HN:Hid (∀w,Calls prog 129 #[χ ⟨[c].toArray⟩] w fun e w'=>e=υ (U true)/\w'=w):=by have:=cZ l vu;rw[ht,hv]at this;exact this
  obtain⟨t,et,iC,hx⟩:=oJ c;rw[ht,<-et]at c3;rw[<-et]at HN;have h0:0<t.size:=by omega
  have uS:(97:Int)<=(t[0].toNat:Int)/\(t[0].toNat:Int)<=104:=by rw[hx];omega
  have aS:Hid (((c.toNat - 97:Nat):Int)=(t[0].toNat:Int) - 97):=by unfold Hid;rw[hx];omega
  clear hx et ht hv gC dC;go_enter func131,ntmps131;go_wp2_with fail;refine(HN.out _).mono ?_;rintro e w1⟨rfl,rfl⟩;go_wp2_with fail;refine(dJ h).mono ?_;rintro e w2⟨rfl,h2,k2⟩;go_wp2_with fail;go_ret;exact⟨_,rfl,by rw[hE.out];exact h2,k2,fun kk e=>by cases e;rw[aS.out]⟩
 | none =>
  have hE:Hid (dG l=.error (2,l.length)):=kI hv;have HN:Hid (∀w,Calls prog 129 #[χ ⟨(Sp.tok l).toArray⟩] w fun e w'=>e=υ (U false)/\w'=w):=by have:=cZ l vu;rw[hv]at this;exact this
  clear hv dC;generalize (⟨(Sp.tok l).toArray⟩:ByteArray)=t at *;go_enter func131,ntmps131;go_wp2_with fail;refine(HN.out _).mono ?_;rintro e w1⟨rfl,rfl⟩;go_wp2_with fail;refine(oR h 2 (by decide) 2 rfl).mono ?_;rintro e w2⟨rfl,h2,k2⟩;go_wp2_with fail;go_ret;exact⟨0,rfl,by rw[hE.out];exact h2,k2,fun kk e=>by cases e⟩
def cJ(l:Sp.Bs):Bool:=(aQ l).isSome || Sp.tok l == uj || Sp.tok l == kW || Sp.tok l == QG || Sp.tok l == oH
theorem yB(l:Sp.Bs)(hl:l.length<=400)(w:Wd) :
  Calls prog 98 #[χ ⟨(Sp.tok l).toArray⟩] w fun e w'=>e=υ (U (cJ l))/\w'=w:=by
 have e:Hid (cJ l=((aQ l).isSome || (⟨(Sp.tok l).toArray⟩:ByteArray).toList == [114,101,97,100] || (⟨(Sp.tok l).toArray⟩:ByteArray).toList == [97,115,115,101,114,116] || (⟨(Sp.tok l).toArray⟩:ByteArray).toList == [105,102] || (⟨(Sp.tok l).toArray⟩:ByteArray).toList == [119,104,105,108,101])):=by unfold Hid;rw[ByteArray.toList_eq];rfl
 have HN:Hid (∀w,Calls prog 129 #[χ ⟨(Sp.tok l).toArray⟩] w fun e w'=>e=υ (U (aQ l).isSome)/\w'=w):=cZ l hl;generalize (⟨(Sp.tok l).toArray⟩:ByteArray)=t at *;generalize (aQ l).isSome=nb at *;go_enter func98,ntmps98;go_wp2_with fail;refine(HN.out _).mono ?_;rintro e w1⟨rfl,rfl⟩;cases nb
 all_goals
  go_wp2
  all_goals
   go_ret;exact⟨eK (by rw[e.out];simp_all),rfl⟩
end
end
section
section
variable{l r:Bs}
theorem CH(h:cJ l=true):aC l=2:=by
 unfold cJ at h;simp only[Bool.or_eq_true,beq_iff_eq]at h
 rcases h with(((h | h) | h) | h) | h
 ·cases hq:aQ l with
  | none=>rw[hq]at h;cases h
  | some k=>exact ff hq
 ·exact jc (c:=114) h rfl
 ·exact jc (c:=97) h rfl
 ·exact jc (c:=105) h rfl
 ·exact jc (c:=119) h rfl
theorem El(h:cJ l=false):aQ l=M/\Sp.tok l≠uj/\Sp.tok l≠kW/\Sp.tok l≠QG/\Sp.tok l≠oH:=by
 unfold cJ at h;simp only[Bool.or_eq_false_iff,beq_eq_false_iff_ne]at h;obtain⟨⟨⟨⟨h1,h2⟩,h3⟩,h4⟩,h5⟩:=h;refine⟨?_,h2,h3,h4,h5⟩;cases hq:aQ l with
 | none=>rfl
 | some k=>rw[hq]at h1;cases h1
theorem nU(A:eR)(n o:Nat)(h:cJ l=false):bN A n o l=.error (2,l.length):=by
 obtain⟨h1,h2,h3,h4,h5⟩:=El h;cases n with
 | zero=>rfl
 | succ n =>unfold bN;rw[if_neg h2,if_neg h3,if_neg h4,if_neg h5];unfold cu;rw[kI h1]
def cU(A:eR)(st:Bs->R A.T):Nat->List A.T->Bs->R (List A.T)
 | 0,acc,l=>.ok (acc,l)
 | m+1,acc,l=>if cJ l=true then(match st l with
     | .ok (x,l1)=>cU A st m (acc ++ [x]) l1
     | .error e=>.error e) else .ok (acc,l)
def vk{α:Type}:R α->R α
 | .ok (x,l)=>if aC l=2 then .error (2,l.length) else .ok (x,l)
 | .error e=>.error e
theorem AX(A:eR)(st:Bs->R A.T)(gI:∀l,cJ l=false->st l=.error (2,l.length))(cQ:∀l x l1,st l=.ok (x,l1)->l1.length<l.length):∀(m:Nat) (acc:List A.T) (l:Bs),l.length<m->cX A st m acc l=vk (cU A st m acc l)
 | 0,_,_,h=>absurd h (Nat.not_lt_zero _)
 | m+1,acc,l,h=>by
  unfold cX cU;by_cases hb:cJ l=true
  ·rw[if_pos hb,if_pos (CH hb)]
   cases hs:st l with
   | error e=>rfl
   | ok xl =>have:=cQ l xl.1 xl.2 hs;exact AX A st gI cQ m _ _ (by omega)
  ·have Is:cJ l=false:=by simpa using hb
   rw[if_neg hb];unfold vk;by_cases hk:aC l=2
   ·rw[if_pos hk,gI l Is];simp only[hk,if_true]
   ·rw[if_neg hk];simp only[hk,if_false]
theorem PV{c:UInt8}(h:aC l=2)(hc:Sp.isLet c=false):Sp.tok l≠c :: r:=by
 intro e;cases l with
 | nil=>simp[Sp.tok]at e
 | cons d q =>
  have ed:d=c:=by
   unfold Sp.tok at e;cases hn:aZ (d :: q) with
   | zero=>rw[hn]at e;simp at e
   | succ m=>rw[hn,List.take_succ_cons]at e;exact(List.cons.inj e).1
  subst ed;rw[bU,if_neg (by rw[hc];simp)]at h;split at h
  ·omega
  ·split at h<;>omega
def bE(A:eR)(st:Bs->R A.T)(o:Nat)(l:Bs):R (List A.T):=match Sp.enter [123] o l with
 | .ok l1=>(match cU A st (l1.length+1) [] l1 with
  | .ok (xs,l2)=>(match Sp.take [125] l2 with
   | .ok l3=>.ok (xs,l3)
   | .error e=>.error e)
  | .error e=>.error e)
 | .error e=>.error e
theorem MF(A:eR)(st:Bs->R A.T)(gI:∀l,cJ l=false->st l=.error (2,l.length))(cQ:∀l x l1,st l=.ok (x,l1)->l1.length<l.length)(o:Nat)(l:Bs):aO A st o l=bE A st o l:=by
 unfold aO bE;cases Sp.enter [123] o l with
 | error e=>rfl
 | ok l1 =>
  simp only;rw[AX A st gI cQ _ _ _ (by omega)];cases cU A st (l1.length+1) [] l1 with
  | error e=>rfl
  | ok xl =>
   obtain⟨xs,l2⟩:=xl;simp only[vk];by_cases hk:aC l2=2
   ·rw[if_pos hk]
    unfold Sp.take;rw[if_neg (PV hk rfl)];rfl
   ·rw[if_neg hk];rfl
theorem P9(A:eR)(l:Bs):pO A l=(match cU A (bN A (l.length+1) 0) (l.length+1) [] l with
  | .ok (xs,l1)=>if l1=[] then .ok xs else Sp.bad 2 l1
  | .error e=>.error e):=by
 unfold pO;rw[AX A _ (fun l h=>nU A _ _ h) (fun l x l1 h=>kH _ _ _ _ _ h) _ _ _ (by omega)];cases cU A (bN A (l.length+1) 0) (l.length+1) [] l with
 | error e=>rfl
 | ok xl =>
  obtain⟨xs,l2⟩:=xl;simp only[vk];by_cases hk:aC l2=2
  ·rw[if_pos hk]
   have:l2≠[]:=by intro e;subst e;simp[aC]at hk
   rw[if_neg this];rfl
  ·rw[if_neg hk]
end
end
section
section
variable{src l1:Sp.Bs}
theorem sV(A:eR)(src:Sp.Bs)(h:¬ 400<src.length):Sp.parse A src=(match cU A (bN A ((Sp.skip src).length+1) 0) ((Sp.skip src).length+1) [] (Sp.skip src) with
  | .ok (fs,l1)=>if l1=[] then .ok fs else .error (2,src.length - l1.length)
  | .error e=>.error (e.1,src.length - e.2)):=by
 unfold Sp.parse;rw[if_neg h,P9]
 rcases cU A (bN A ((Sp.skip src).length+1) 0) ((Sp.skip src).length+1) [] (Sp.skip src) with e | ⟨fs,l1⟩
 ·rfl
 ·simp only
  by_cases hl:l1=[]
  ·rw[if_pos hl,if_pos hl]
  ·rw[if_neg hl,if_neg hl];rfl
theorem IZ(h:400<src.length):Sp.tree src=.error (1,0):=by unfold Sp.tree Sp.parse;rw[if_pos h]
theorem Pj(h:¬ 400<src.length){fs:List (Bl->Bl)}(e:cU Tr (bN Tr ((Sp.skip src).length+1) 0) ((Sp.skip src).length+1) [] (Sp.skip src)=.ok (fs,[])):Sp.tree src=.ok (aW fs):=by unfold Sp.tree;rw[sV Tr src h,e];rfl
theorem I8(h:¬ 400<src.length){fs:List (Bl->Bl)}(hl:l1≠[])(e:cU Tr (bN Tr ((Sp.skip src).length+1) 0) ((Sp.skip src).length+1) [] (Sp.skip src)=.ok (fs,l1)):Sp.tree src=.error (2,src.length - l1.length):=by unfold Sp.tree;rw[sV Tr src h,e];simp only;rw[if_neg hl]
theorem Np(h:¬ 400<src.length){er:Nat × Nat}(e:cU Tr (bN Tr ((Sp.skip src).length+1) 0) ((Sp.skip src).length+1) [] (Sp.skip src)=.error er):Sp.tree src=.error (er.1,src.length - er.2):=by unfold Sp.tree;rw[sV Tr src h,e]
end
end
section
section
variable{base b pb m lv op:Nat}
variable{s:ByteArray}
variable{o first k k2:Int}
variable{p:FP}
variable{w:Wd}
variable{l l1:Sp.Bs}
theorem lR{r:Except (Nat × Nat) Sp.Bs}(h:FX base b pb s r o p w)(x y site:Int)(t:Sp.Bs)(hn:p.ns.length+1<=1000000) :
  Calls prog 176 #[ρ (Y ⟨b,0,M⟩),I O x,χ ⟨t.toArray⟩,I O site,I O y] w fun e w'=>e=υ (I O (p.ns.length:Nat))/\∃v,FX base b pb s r o { p with ns:=p.ns ++ [{ kind:=4,a:=x,b:=y,sign:=t,site:=site }],nv:=v } w'/\FK b pb p { p with ns:=p.ns ++ [{ kind:=4,a:=x,b:=y,sign:=t,site:=site }],nv:=v } w w':=by
 have H:=hid h;clear h;go_enter func176,ntmps176;go_wp2_with fail;refine(eF H.out { kind:=4,a:=x,b:=y,sign:=t,site:=site } hn).mono ?_;rintro e w2⟨rfl,v,h2,k2⟩;go_wp2_with fail;go_ret;exact⟨rfl,v,h2,k2⟩
theorem Au(h:Bk w pb (cM p first) 105)(n:Int):(w.setCell ⟨pb,3,M⟩ (I O n)).heap[pb]?=Y (L (cM { p with ct:=(p.ct.1,n) } first) 105):=by rw[ah h 3 (I O n)];rfl
theorem mb(h:Bk w pb (cM p first) 105)(n:Int):(w.setCell ⟨pb,2,M⟩ (I O n)).heap[pb]?=Y (L (cM { p with ct:=(n,p.ct.2) } first) 105):=by rw[ah h 2 (I O n)];rfl
theorem FX.jf{r:Except (Nat × Nat) Sp.Bs}{p':FP}(h:FX base b pb s r o p w)(i:Nat)(u:Value)(hb:Bk (w.setCell ⟨pb,i,M⟩ u) pb (cM p' 0) 105)(h1:p'.ns=p.ns)(h2:p'.qs=p.qs)(h3:p'.nv=p.nv)(h4:p'.qv=p.qv) :
  FX base b pb s r o p' (w.setCell ⟨pb,i,M⟩ u)/\FK b pb p p' w (w.setCell ⟨pb,i,M⟩ u):=by
 have hp:=h.prog;have KI:=hp.dE hp.aT kZ;refine⟨h.move (Below.heap_setCell _ _ _ _ h.ne) ⟨hb,?_,?_,hp.ge,by rw[h1];exact hp.n5,by rw[h2];exact hp.q5⟩,rfl,rfl,rfl,by simp[World.setCell],fun _ e=>.inl (by rw[<-h3];exact e),fun _ e=>.inl (by rw[<-h4];exact e),fun k hk _ e2 _ _=>Below.heap_setCell _ _ _ _ e2⟩
 ·rw[h1,h3]
  exact aY hp.jS (fun g pM=>Below.heap_setCell _ _ _ _ (fun e=>KI.1 (by rw[<-show g=pb from e];exact pM)))
 ·rw[h2,h4]
  exact aY hp.kU (fun g pM=>Below.heap_setCell _ _ _ _ (fun e=>KI.2 (by rw[<-show g=pb from e];exact pM)))
def nP(b:Nat)(s:ByteArray)(w:Wd):Nat:=match w.cell? ⟨b,6,M⟩ with
 | some (I _ 0)=>(match w.cell? ⟨b,2,M⟩ with
  | some (I _ a)=>s.size+1 - a.toNat
  | _=>0)
 | _=>0
theorem FR.rest(h:FR base b pb s l o p w):nP b s w=l.length+1:=by unfold nP;rw[cell_of h.aT 6 (v:=I O 0) rfl];simp only;rw[cell_of h.aT 2 (v:=I O ((s.size - l.length:Nat):Int)) rfl];simp only;have:=h.len;omega
theorem FE.rest{er:Nat × Nat}(h:FE base b pb s er p w):nP b s w=0:=by
 obtain⟨i,l0,o,hb,_⟩:=h.aT;have hz:=h.nz;unfold nP;rw[cell_of hb 6 (v:=I O er.1) rfl];split
 ·rename_i k e
  have:er.1=0:=(by simpa using e:_/\er.1=0).2;omega
 ·rfl
theorem FX.pd{α:Type}{r:Sp.R α}(h:FX base b pb s (left r) o p w)(hm:∀x l,r=.ok (x,l)->l.length<m):nP b s w<=m:=by
 cases r with
 | error e=>rw[FE.rest (show FE base b pb s e p w from h)];omega
 | ok xl=>rw[FR.rest (show FR base b pb s xl.2 o p w from h)];exact hm xl.1 xl.2 rfl
def rP(A:eR)(lv:Nat)(u:Sp.Bs->Sp.R A.S)(fin:Sp.R A.S):Sp.R A.S->Prop
 | .ok (x,l)=>∃m,l.length<m/\fin=bH A lv u m x l
 | .error e=>fin=.error e
def NA(A:eR)(op:Nat)(x:A.S):Sp.R A.S->Sp.R A.S
 | .ok (y,l)=>.ok (A.bin op x y,l)
 | .error e=>.error e
theorem vS(A:eR)(lv:Nat)(u:Sp.Bs->Sp.R A.S)(m:Nat)(x:A.S)(l:Sp.Bs):bH A lv u (m+1) x l=match ep (Sp.tok l) with
  | some k=>if cK k=lv then(match u (Sp.next l) with
    | .ok (y,l')=>bH A lv u m (A.bin k x y) l'
    | .error e=>.error e) else .ok (x,l)
  | none=>.ok (x,l):=by rw[bH];rfl
theorem DI{A:eR}{u:Sp.Bs->Sp.R A.S}{fin:Sp.R A.S}{x:A.S}(h:rP A lv u fin (.ok (x,l)))(ie:ep (Sp.tok l)=Y op)(J8:cK op=lv)(cQ:∀l x l1,u l=.ok (x,l1)->l1.length<=l.length):rP A lv u fin (NA A op x (u (Sp.next l))):=by
 obtain⟨m,hm,e⟩:=h;cases m with
 | zero=>omega
 | succ m =>
  have hn:=fC ie;rw[vS]at e;rw[ie]at e;simp only[J8,if_true]at e;cases hu:u (Sp.next l) with
  | error er=>rw[hu]at e;exact e
  | ok yl =>obtain⟨y,l1⟩:=yl;have:=cQ _ _ _ hu;rw[hu]at e;exact⟨m,by omega,e⟩
theorem CT{A:eR}{u:Sp.Bs->Sp.R A.S}{fin:Sp.R A.S}{x:A.S}(h:rP A lv u fin (.ok (x,l)))(ie:∀op,ep (Sp.tok l)=Y op->cK op≠lv):fin=.ok (x,l):=by
 obtain⟨m,hm,e⟩:=h;cases m with
 | zero=>omega
 | succ m =>
  rw[vS]at e;cases ho:ep (Sp.tok l) with
  | none=>rw[ho]at e;exact e
  | some op =>rw[ho]at e;simp only[if_neg (ie op ho)]at e;exact e
def kK(lv:Nat)(u:Sp.Bs->Sp.R Sm)(fin:Sp.R Sm)(r:Sp.R Sm):Prop:=rP Tr lv u fin r
def roundOf(op:Nat)(x:Sm):Sp.R Sm->Sp.R Sm
 | .ok (y,l)=>.ok (.bin op x y,l)
 | .error e=>.error e
theorem Nt(op:Nat)(x:Sm)(r:Sp.R Sm):NA Tr op x r=roundOf op x r:=by rcases r with e | ⟨y,l⟩<;>rfl
theorem kF{u:Sp.Bs->Sp.R Sm}{fin:Sp.R Sm}{x:Sm}(h:kK lv u fin (.ok (x,l)))(ie:ep (Sp.tok l)=Y op)(J8:cK op=lv)(cQ:∀l x l1,u l=.ok (x,l1)->l1.length<=l.length):kK lv u fin (roundOf op x (u (Sp.next l))):=by have:=DI (A:=Tr) h ie J8 cQ;rw[<-Nt];exact this
theorem wM{u:Sp.Bs->Sp.R Sm}{fin:Sp.R Sm}{x:Sm}(h:kK lv u fin (.ok (x,l)))(ie:∀op,ep (Sp.tok l)=Y op->cK op≠lv):fin=.ok (x,l):=CT (A:=Tr) h ie
theorem uk{u:Sp.Bs->Sp.R Sm}{fin:Sp.R Sm}{e:Nat × Nat}(h:kK lv u fin (.error e)):fin=.error e:=h
theorem tP{u:Sp.Bs->Sp.R Sm}:kK lv u (bP Tr lv u l) (u l):=by
 unfold bP;show rP Tr lv u _ _
 rcases hu:u l with e | ⟨x,l1⟩
 ·exact rfl
 ·exact⟨l1.length+1,by omega,rfl⟩
theorem mo{p1 p2 p3:FP}{x:Sm}{r:Sp.R Sm}{n:aH}{v:Value}(g:iv p p1 l k (.ok (x,l1)))(ie:ep (Sp.tok l1)=Y op)
  (e1:p2.ns=p1.ns) (e2:p2.qs=p1.qs) (e3:p2.ct=if 3<=op then Sp.aJ p1.ct else p1.ct) (g2:iv p2 p3 (Sp.next l1) k2 r) (hk:n.kind=4) (ha:n.a=k) (hb:n.b=k2) (hs:n.sign=Sp.tok l1) (Il:n.site=if 3<=op then p1.ct.2 else -1) :
  iv p { p3 with ns:=p3.ns ++ [n],nv:=v } l (p3.ns.length:Nat) (roundOf op x r):=by
 have hn:=fC ie;obtain⟨m1,⟨j,yT,Ia,Ea⟩,q1⟩:=g;cases r with
 | error e =>
  have g3:dh p2 p3 (Sp.next l1):=g2;have g4:dh p1 p3 (Sp.next l1):=by obtain⟨⟨ex,hex⟩,g5⟩:=g3;exact⟨⟨ex,by rw[hex,e1]⟩,by rw[e1]at g5;exact g5⟩
  exact dh.made m1 (g4.node hn n v)
 | ok yl =>
  obtain⟨y,l2⟩:=yl;obtain⟨m2,⟨j2,i1,i2,i3⟩,q2⟩:=g2;obtain⟨ex1,x1⟩:=m1.pre;obtain⟨ex2,x2⟩:=m2.pre;have n1:=m1.nl;have n2:=m2.nl;have l1':=m1.ql;have Rg:=m2.ql;rw[e1]at n2 x2;rw[e2]at Rg q2;have hlen:p1.ns.length<=p3.ns.length:=by rw[x2];simp
  have Xr:p.ns.length<=p1.ns.length:=m1.len;have hin:∀i,i<p1.ns.length->(p3.ns ++ [n])[i]?=p1.ns[i]?:=fun i hi=>by rw[List.getElem?_append_left (by omega),x2,List.getElem?_append_left hi]
  refine⟨⟨⟨ex1 ++ (ex2 ++ [n]),by show p3.ns ++ [n]=_;rw[x2,x1];simp⟩,by simp;omega,by show p3.qs.length+_<=_;omega,fun q=>m2.pt (by rw[e3];have:=m1.pt q;split<;>exact this)⟩,⟨p3.ns.length,rfl,by simp,?_⟩,by show p3.qs=_;rw[q2,q1];simp[fm]⟩;refine⟨n,j,j2,p1.ct,by simp,hk,by rw[ha,yT],by rw[hb,i1],?_,rK ie,by omega,i2,Ea.mono (Nat.le_refl _) (fun i _ hi=>hin i (by omega)),Il,?_⟩
  ·rw[hs]
   unfold ep at ie
   repeat' split at ie
   all_goals first | (rename_i he;cases ie;rw[he];rfl) | cases ie
  ·rw[<-e3,e1]at *
   exact i3.mono Xr (fun i _ hi=>by show(p3.ns ++ [n])[i]?=_;rw[List.getElem?_append_left (by omega)])
end
end
section
section
variable{base b pb op:Nat}
variable{s:ByteArray}
variable{p p':FP}
variable{w w':Wd}
theorem FE.asks{er:Nat × Nat}(h:FE base b pb s er p w):∃(q:Int) (t:ByteArray),w.cell? ⟨b,6,M⟩=Y (I O q)/\(q == 0)=false/\¬ q=0/\w.cell? ⟨b,3,M⟩=Y (χ t):=by obtain⟨i,l0,o,hb,_⟩:=h.aT;have:=h.nz;exact⟨er.1,_,cell_of hb 6 rfl,by simp;omega,by omega,cell_of hb 3 rfl⟩
theorem AP(base b pb:Nat)(s:ByteArray):zu 175 base b pb s 0:=by
 intro er p w h;obtain⟨q,t,c6,hz,gU,c3⟩:=h.asks;go_enter func175,ntmps175;go_wp2_with fail;refine(wP base b pb s er p w h).mono ?_;rintro e w1⟨rfl,rfl⟩;go_wp2_with fail
 go_loopw [3] (fun a wr=>a=I O 0/\wr=w1) (fun _ _=>0)
 case atStart=>exact⟨rfl,rfl⟩
 case round =>
  obtain⟨rfl,rfl⟩:=hrel;go_wp2_with fail;go_ret;exact⟨rfl,rfl⟩
def Ag(base b pb:Nat)(s:ByteArray)(o:Nat)(p0:FP)(l0:Sp.Bs)(w0:Wd)(lv:Nat)(u:Sp.Bs->Sp.R Sm)(fin:Sp.R Sm)(k:Int)(w:Wd):Prop :=
 ∃(cur:Sp.R Sm) (p:FP),FX base b pb s (left cur) (o:Int) p w/\FK b pb p0 p w0 w/\iv p0 p l0 k cur/\kK lv u fin cur
theorem FX.drew{r:Except (Nat × Nat) Sp.Bs}{o:Int}(h:FX base b pb s r o p w):FX base b pb s r o p w.drew:=h.after (Below.refl _ _).drew
theorem FK.drew(h:FK b pb p p' w w'):FK b pb p p' w w'.drew:=⟨h.os,h.tape,h.output,h.size,h.jS,h.kU,h.block⟩
theorem pD{l:Sp.Bs}{k:Int}{r:Sp.R Sm}(g:iv p p' l k r)(hl:eI p l):p'.ns.length+1<=1000000:=by
 obtain⟨h1,h2,_⟩:=hl
 rcases r with e | ⟨x,l1⟩
 ·have:=(show dh p p' l from g).2;omega
 ·have:=g.1.nl;omega
theorem j9{x:Sm}{r:Sp.R Sm}{o:Int}(h:FX base b pb s (left r) o p w):FX base b pb s (left (roundOf op x r)) o p w:=by rcases r with e | ⟨y,l⟩<;>exact h
theorem lQ{x y:Sm}{l l':Sp.Bs}{u:Sp.Bs->Sp.R Sm}(cQ:∀l x l1,u l=.ok (x,l1)->l1.length<=l.length)(ie:ep (Sp.tok l)=Y op)(h:roundOf op x (u (Sp.next l))=.ok (y,l')):l'.length<l.length:=by
 have hn:=fC ie
 rcases hu:u (Sp.next l) with e | ⟨z,l1⟩
 ·rw[hu]at h;cases h
 ·rw[hu]at h
  have:=cQ _ _ _ hu;cases h
  omega
theorem oX(base b pb:Nat)(s:ByteArray)(o n:Nat)(u:Sp.Bs->Sp.R Sm)(cQ:∀l x l1,u l=.ok (x,l1)->l1.length<=l.length)(hr:lJ 210 base b pb s o n u):lJ 175 base b pb s o n (oG Tr u):=by
 intro l p w hl h hlim;have HR:=hid hr;have HD:Hid (∀l x l1,u l=.ok (x,l1)->l1.length<=l.length):=cQ;have hE:Hid (oG Tr u l=bP Tr 1 u l):=rfl;clear hr cQ;go_enter func175,ntmps175;go_wp2_with fail;refine(HR.out l p w hl h hlim).mono ?_;rintro e w1⟨k,p1,rfl,h1,k1,g1⟩;have HC:Hid (Ag base b pb s o p l w 1 u (bP Tr 1 u l) k w1):=⟨u l,p1,h1,k1,g1,tP⟩;clear h1 k1 g1 h;go_wp2_with fail
 go_loopw [3] (fun a wr=>∃k:Int,a=I O k/\Hid (Ag base b pb s o p l w 1 u (bP Tr 1 u l) k wr)) (fun _ wr=>nP b s wr)
 case atStart=>exact⟨k,rfl,HC⟩
 case round =>
  obtain⟨k,rfl,mG⟩:=hrel;obtain⟨cur,pc,hx,hk,hg,uI⟩:=mG.out
  rcases cur with er | ⟨x,lc⟩
  ·obtain⟨q,t,c6,hz,gU,c3⟩:=FE.asks (show FE base b pb s er pc wr from hx)
   have HF:Hid (iR base b pb s o p l w (oG Tr u l) (υ (I O k)) wr):=by unfold Hid;rw[hE.out,uk uI];exact⟨k,pc,rfl,hx,hk,hg⟩
   clear hx hk hg uI mG HC;go_wp2_with fail;go_ret;exact HF.out
  ·have eG:FR base b pb s lc (o:Int) pc wr:=hx
   obtain⟨c6,c3,dC,vu⟩:=eG.asks;by_cases ie:Sp.tok lc=[42]∨Sp.tok lc=[47]∨Sp.tok lc=[37]
   ·have Yn:lc.length<=l.length:=by have:=hg.1.nl;have:=hg.1.len;omega
    have Oc:Hid (eI pc lc):=hg.1.D9 hlim;have HW:=hid eG.rest
    rcases ie with ht | ht | ht
    ·have ie:ep (Sp.tok lc)=Y 2:=by rw[ht];rfl
     have HG:Hid (iv p pc l k (.ok (x,lc))/\ep (Sp.tok lc)=Y 2/\Sp.tok lc=[42]/\kK 1 u (bP Tr 1 u l) (roundOf 2 x (u (Sp.next lc)))):=⟨hg,ie,ht,kF uI ie rfl HD.out⟩;have eO:=fC ie;have HL:Hid (eI pc (Sp.next lc)):=(bQ.xY (by omega)).D9 Oc.out;rw[ht]at c3;clear ie ht dC uI hg hx mG HC Oc;go_wp2_with fail;refine(dJ eG).mono ?_;rintro e w2⟨rfl,h2,k2⟩;go_wp2_with fail;refine(HR.out (Sp.next lc) pc w2 (by omega) h2 HL.out).mono ?_;rintro e w3⟨k3,p3,rfl,h3,DZ,g3⟩;have iD:=pD g3 HL.out;have H3:Hid (_/\_/\_):=⟨h3,DZ,g3⟩;clear h3 DZ g3;go_wp2_with fail;refine(lR H3.1 k k3 (-1) [42] iD).mono ?_;rintro e w4⟨rfl,v,h4,k4⟩;have G:=mo (v:=v) (n:={ kind:=4,a:=k,b:=k3,sign:=[42],site:=(-1) }) HG.1 HG.2.1 rfl rfl rfl H3.2.2 rfl rfl rfl HG.2.2.1.symm rfl;have Bx:FX base b pb s (left (roundOf 2 x (u (Sp.next lc)))) (o:Int) _ w4:=j9 h4;have cI:=Bx.pd (m:=lc.length) (fun y l' e=>lQ HD.out HG.2.1 e);have yS:Hid (Ag base b pb s o p l w 1 u (bP Tr 1 u l) (p3.ns.length:Nat) w4):=⟨_,_,Bx,((hk.trans k2).trans H3.2.1).trans k4,G,HG.2.2.2⟩;clear G Bx h4 k4;go_wp2_with fail;exact⟨⟨_,rfl,yS⟩,by rw[HW.out];omega⟩
    ·have ie:ep (Sp.tok lc)=Y 3:=by rw[ht];rfl
     have HG:Hid (iv p pc l k (.ok (x,lc))/\ep (Sp.tok lc)=Y 3/\Sp.tok lc=[47]/\kK 1 u (bP Tr 1 u l) (roundOf 3 x (u (Sp.next lc)))):=⟨hg,ie,ht,kF uI ie rfl HD.out⟩;have eO:=fC ie;have c4:=cell_of eG.aT 4 (v:=ρ (Y ⟨pb,0,M⟩)) rfl;have d3:=cell_of eG.prog.aT 3 (v:=I O pc.ct.2) rfl;have f3:=aw eG.prog.aT 3;obtain⟨iC,fK⟩:=FX.jf (r:=.ok lc) (p':={ pc with ct:=Sp.aJ pc.ct }) eG 3 (I O (RowKit.wrap64 (pc.ct.2+1))) (Au eG.prog.aT _) rfl rfl rfl rfl;have HS:Hid (FR base b pb s lc (o:Int) { pc with ct:=Sp.aJ pc.ct } (wr.setCell ⟨pb,3,M⟩ (I O (RowKit.wrap64 (pc.ct.2+1)))).drew/\FK b pb pc { pc with ct:=Sp.aJ pc.ct } wr (wr.setCell ⟨pb,3,M⟩ (I O (RowKit.wrap64 (pc.ct.2+1)))).drew):=⟨FX.drew (r:=.ok lc) iC,fK.drew⟩;have HL:Hid (eI { pc with ct:=Sp.aJ pc.ct } (Sp.next lc)):=(bQ.xY (p:={ pc with ct:=Sp.aJ pc.ct }) (l:=lc) (by omega)).D9 Oc.out;rw[ht]at c3;clear ie ht dC uI hg hx mG HC Oc iC fK;go_wp2_with fail
     go_region_with (fail)
     all_goals
      go_wp2_with fail;refine(dJ HS.1).mono ?_;rintro e w2⟨rfl,h2,k2⟩;go_wp2_with fail;refine(HR.out (Sp.next lc) { pc with ct:=Sp.aJ pc.ct } w2 (by omega) h2 HL.out).mono ?_;rintro e w3⟨k3,p3,rfl,h3,DZ,g3⟩;have iD:=pD g3 HL.out;have H3:Hid (_/\_/\_):=⟨h3,DZ,g3⟩;clear h3 DZ g3;go_wp2_with fail;refine(lR H3.1 k k3 pc.ct.2 [47] iD).mono ?_;rintro e w4⟨rfl,v,h4,k4⟩;have G:=mo (p2:={ pc with ct:=Sp.aJ pc.ct }) (v:=v) (n:={ kind:=4,a:=k,b:=k3,sign:=[47],site:=pc.ct.2 }) HG.1 HG.2.1 rfl rfl rfl H3.2.2 rfl rfl rfl HG.2.2.1.symm rfl;have Bx:FX base b pb s (left (roundOf 3 x (u (Sp.next lc)))) (o:Int) _ w4:=j9 h4;have cI:=Bx.pd (m:=lc.length) (fun y l' e=>lQ HD.out HG.2.1 e);have yS:Hid (Ag base b pb s o p l w 1 u (bP Tr 1 u l) (p3.ns.length:Nat) w4):=⟨_,_,Bx,((hk.trans (HS.2.trans k2)).trans H3.2.1).trans k4,G,HG.2.2.2⟩;clear G Bx h4 k4;go_wp2_with fail;exact⟨⟨_,rfl,yS⟩,by rw[HW.out];omega⟩
    ·have ie:ep (Sp.tok lc)=Y 4:=by rw[ht];rfl
     have HG:Hid (iv p pc l k (.ok (x,lc))/\ep (Sp.tok lc)=Y 4/\Sp.tok lc=[37]/\kK 1 u (bP Tr 1 u l) (roundOf 4 x (u (Sp.next lc)))):=⟨hg,ie,ht,kF uI ie rfl HD.out⟩;have eO:=fC ie;have c4:=cell_of eG.aT 4 (v:=ρ (Y ⟨pb,0,M⟩)) rfl;have d3:=cell_of eG.prog.aT 3 (v:=I O pc.ct.2) rfl;have f3:=aw eG.prog.aT 3;obtain⟨iC,fK⟩:=FX.jf (r:=.ok lc) (p':={ pc with ct:=Sp.aJ pc.ct }) eG 3 (I O (RowKit.wrap64 (pc.ct.2+1))) (Au eG.prog.aT _) rfl rfl rfl rfl;have HS:Hid (FR base b pb s lc (o:Int) { pc with ct:=Sp.aJ pc.ct } (wr.setCell ⟨pb,3,M⟩ (I O (RowKit.wrap64 (pc.ct.2+1)))).drew/\FK b pb pc { pc with ct:=Sp.aJ pc.ct } wr (wr.setCell ⟨pb,3,M⟩ (I O (RowKit.wrap64 (pc.ct.2+1)))).drew):=⟨FX.drew (r:=.ok lc) iC,fK.drew⟩;have HL:Hid (eI { pc with ct:=Sp.aJ pc.ct } (Sp.next lc)):=(bQ.xY (p:={ pc with ct:=Sp.aJ pc.ct }) (l:=lc) (by omega)).D9 Oc.out;rw[ht]at c3;clear ie ht dC uI hg hx mG HC Oc iC fK;go_wp2_with fail
     go_region_with (fail)
     all_goals
      go_wp2_with fail;refine(dJ HS.1).mono ?_;rintro e w2⟨rfl,h2,k2⟩;go_wp2_with fail;refine(HR.out (Sp.next lc) { pc with ct:=Sp.aJ pc.ct } w2 (by omega) h2 HL.out).mono ?_;rintro e w3⟨k3,p3,rfl,h3,DZ,g3⟩;have iD:=pD g3 HL.out;have H3:Hid (_/\_/\_):=⟨h3,DZ,g3⟩;clear h3 DZ g3;go_wp2_with fail;refine(lR H3.1 k k3 pc.ct.2 [37] iD).mono ?_;rintro e w4⟨rfl,v,h4,k4⟩;have G:=mo (p2:={ pc with ct:=Sp.aJ pc.ct }) (v:=v) (n:={ kind:=4,a:=k,b:=k3,sign:=[37],site:=pc.ct.2 }) HG.1 HG.2.1 rfl rfl rfl H3.2.2 rfl rfl rfl HG.2.2.1.symm rfl;have Bx:FX base b pb s (left (roundOf 4 x (u (Sp.next lc)))) (o:Int) _ w4:=j9 h4;have cI:=Bx.pd (m:=lc.length) (fun y l' e=>lQ HD.out HG.2.1 e);have yS:Hid (Ag base b pb s o p l w 1 u (bP Tr 1 u l) (p3.ns.length:Nat) w4):=⟨_,_,Bx,((hk.trans (HS.2.trans k2)).trans H3.2.1).trans k4,G,HG.2.2.2⟩;clear G Bx h4 k4;go_wp2_with fail;exact⟨⟨_,rfl,yS⟩,by rw[HW.out];omega⟩
   ·have gI:Hid (bP Tr 1 u l=.ok (x,lc)):=wM uI (fun op ho=>by
     unfold ep at ho;rw[if_neg (fun e=>ie (.inl e)),if_neg (fun e=>ie (.inr (.inl e))),if_neg (fun e=>ie (.inr (.inr e)))]at ho;split at ho
     ·cases ho;simp[cK]
     ·split at ho
      ·cases ho;simp[cK]
      ·cases ho)
    have HF:Hid (iR base b pb s o p l w (oG Tr u l) (υ (I O k)) wr):=by unfold Hid;rw[hE.out,gI.out];exact⟨k,pc,rfl,hx,hk,hg⟩
    have n1:((⟨(Sp.tok lc).toArray⟩:ByteArray).toList == [42])=false:=by rw[ByteArray.toList_eq];simpa using fun e=>ie (.inl e)
    have n2:((⟨(Sp.tok lc).toArray⟩:ByteArray).toList == [47])=false:=by rw[ByteArray.toList_eq];simpa using fun e=>ie (.inr (.inl e))
    have n3:((⟨(Sp.tok lc).toArray⟩:ByteArray).toList == [37])=false:=by rw[ByteArray.toList_eq];simpa using fun e=>ie (.inr (.inr e))
    generalize (⟨(Sp.tok lc).toArray⟩:ByteArray)=t at *;clear hx hk hg uI mG HC ie eG;go_wp2_with fail;go_ret;exact HF.out
end
end
section
section
variable{b pb N base j:Nat}
variable{n n' d:aH}
variable{p p' p0:FP}
variable{w w' w0:Wd}
variable{s:ByteArray}
variable{o o':Int}
structure yp(b pb N:Nat)(n:aH)(p:FP)(w:Wd):Prop where
 aT:w.heap[N]?=Y (L (cm n).toArray 176)
 rn:p.nv.ownBlock≠Y N
 rq:p.qv.ownBlock≠Y N
 nb:N≠b
 np:N≠pb
theorem yp.bF(h:yp b pb N n p w)(k:FK b pb p p' w w'):yp b pb N n p' w':=by
 have cR:=ad h.aT;refine⟨by rw[k.block N cR h.nb h.np h.rn h.rq];exact h.aT,fun e=>?_,fun e=>?_,h.nb,h.np⟩
 ·rcases k.jS N e with e' | e'
  ·exact h.rn e'
  ·omega
 ·rcases k.kU N e with e' | e'
  ·exact h.rq e'
  ·omega
theorem yp.set(h:yp b pb N n p w)(c:Nat)(u:Value)(hu:(cm n).set c u=cm n'):yp b pb N n' p (w.setCell ⟨N,c,M⟩ u):=by refine⟨?_,h.rn,h.rq,h.nb,h.np⟩;rw[ah h.aT c u,<-hu];simp
theorem FX.other{r:Except (Nat × Nat) Sp.Bs}(h:FX base b pb s r o p w)(x:yp b pb N n p w)(c:Nat)(u:Value):FX base b pb s r o p (w.setCell ⟨N,c,M⟩ u):=by
 have hp:=h.prog;refine h.move (Below.heap_setCell _ _ _ _ (Ne.symm x.nb)) ⟨?_,?_,?_,hp.ge,hp.n5,hp.q5⟩
 ·rw[Below.heap_setCell _ _ _ _ (Ne.symm x.np)];exact hp.aT
 ·exact aY hp.jS (fun g hg=>Below.heap_setCell _ _ _ _ (fun e=>x.rn (by rw[<-show g=N from e];exact hg)))
 ·exact aY hp.kU (fun g hg=>Below.heap_setCell _ _ _ _ (fun e=>x.rq (by rw[<-show g=N from e];exact hg)))
theorem FK.new(h:FK b pb p p' w w')(hN:w.heap.size<=N)(c:Nat)(u:Value):FK b pb p p' w (w'.setCell ⟨N,c,M⟩ u) :=
 ⟨h.os,h.tape,h.output,by have:=h.size;simp[World.setCell];omega,h.jS,h.kU,fun k hk h1 h2 h3 h4=>by rw[Below.heap_setCell _ _ _ _ (fun e=>by have:k=N:=e;omega)];exact h.block k hk h1 h2 h3 h4⟩
structure gZ(base b pb N:Nat)(s:ByteArray)(r:Except (Nat × Nat) Sp.Bs)(o:Int)(p0 p:FP)(w0:Wd)(n:aH)(w:Wd):Prop where
 fx:FX base b pb s r o p w
 fk:FK b pb p0 p w0 w
 box:yp b pb N n p w
 new:w0.heap.size<=N
theorem gZ.call{r r':Except (Nat × Nat) Sp.Bs}(h:gZ base b pb N s r o p0 p w0 n w)(hx:FX base b pb s r' o' p' w')(hk:FK b pb p p' w w'):gZ base b pb N s r' o' p0 p' w0 n w' :=
 ⟨hx,h.fk.trans hk,h.box.bF hk,h.new⟩
theorem gZ.set{r:Except (Nat × Nat) Sp.Bs}(h:gZ base b pb N s r o p0 p w0 n w)(c:Nat)(u:Value)(hu:(cm n).set c u=cm n'):gZ base b pb N s r o p0 p w0 n' (w.setCell ⟨N,c,M⟩ u) :=
 ⟨h.fx.other h.box c u,h.fk.new h.new c u,h.box.set c u hu,h.new⟩
theorem gZ.drew{r:Except (Nat × Nat) Sp.Bs}(h:gZ base b pb N s r o p0 p w0 n w):gZ base b pb N s r o p0 p w0 n w.drew :=
 ⟨h.fx.drew,h.fk.drew,⟨h.box.aT,h.box.rn,h.box.rq,h.box.nb,h.box.np⟩,h.new⟩
theorem yp.cell(h:yp b pb N n p w)(c:Nat){u:Value}(hu:(cm n)[c]?=Y u):w.cell? ⟨N,c,M⟩=Y u/\w.frozen? ⟨N,c,M⟩=false :=
 ⟨cell_of h.aT c (by simpa using hu),aw h.aT c⟩
theorem gZ.start{r:Except (Nat × Nat) Sp.Bs}(n:aH)(hx:FX base b pb s r o p w)(hk:FK b pb p0 p w0 w):gZ base b pb w.heap.size s r o p0 p w0 n (w.alloc (L (cm n).toArray 176)):=by
 have hB:ω w (w.alloc (L (cm n).toArray 176)):=(Below.refl _ _).alloc (Nat.le_refl _) _;obtain⟨_,_,_,_,_,hb⟩:=hx.KZ;refine⟨hx.after hB,hk.trans (FK.aB hB),⟨heap_alloc_new _ _,fun e=>?_,fun e=>?_,?_,?_⟩,hk.size⟩
 ·have:=(bJ hx.prog.jS _ e).2.1;omega
 ·have:=(bJ hx.prog.kU _ e).2.1;omega
 ·have:=ad hb;omega
 ·have:=ad hx.prog.aT;omega
theorem gZ.facts{r:Except (Nat × Nat) Sp.Bs}(h:gZ base b pb N s r o p0 p w0 n w)(hd:p.ns[j]?=Y d) :
  ∃g cap,p.nv=Z (Y ⟨g,0,M⟩) p.ns.length cap/\p.ns.length<=cap/\cap<=maxLen/\p.ns.length<=1000000/\j<p.ns.length/\w.cell? ⟨b,4,M⟩=Y (ρ (Y ⟨pb,0,M⟩))/\w.cell? ⟨pb,0,M⟩=Y (Z (Y ⟨g,0,M⟩) p.ns.length cap) /\
   (w.cell? ⟨N,0,M⟩=Y (I O n.kind)/\w.cell? ⟨N,1,M⟩=Y (I O n.a)/\w.cell? ⟨N,2,M⟩=Y (I O n.b)/\w.cell? ⟨N,3,M⟩=Y (I O n.c)/\w.cell? ⟨N,4,M⟩=Y (I O n.n)/\w.cell? ⟨N,5,M⟩=Y (I O n.next)/\w.cell? ⟨N,6,M⟩=Y (χ ⟨n.sign.toArray⟩)/\w.cell? ⟨N,7,M⟩=Y (I O n.site)/\w.cell? ⟨N,8,M⟩=Y (I O n.ay)/\w.cell? ⟨N,9,M⟩=Y (U n.els)) /\
   (w.cell? ⟨g,j*10,M⟩=Y (I O d.kind)/\w.cell? ⟨g,j*10+1,M⟩=Y (I O d.a)/\w.cell? ⟨g,j*10+2,M⟩=Y (I O d.b)/\w.cell? ⟨g,j*10+3,M⟩=Y (I O d.c)/\w.cell? ⟨g,j*10+4,M⟩=Y (I O d.n)/\w.cell? ⟨g,j*10+5,M⟩=Y (I O d.next)/\w.cell? ⟨g,j*10+6,M⟩=Y (χ ⟨d.sign.toArray⟩)/\w.cell? ⟨g,j*10+7,M⟩=Y (I O d.site)/\w.cell? ⟨g,j*10+8,M⟩=Y (I O d.ay)/\w.cell? ⟨g,j*10+9,M⟩=Y (U d.els)) /\
   (w.frozen? ⟨g,j*10,M⟩=false/\w.frozen? ⟨g,j*10+1,M⟩=false/\w.frozen? ⟨g,j*10+2,M⟩=false/\w.frozen? ⟨g,j*10+3,M⟩=false/\w.frozen? ⟨g,j*10+4,M⟩=false/\w.frozen? ⟨g,j*10+5,M⟩=false/\w.frozen? ⟨g,j*10+6,M⟩=false/\w.frozen? ⟨g,j*10+7,M⟩=false/\w.frozen? ⟨g,j*10+8,M⟩=false/\w.frozen? ⟨g,j*10+9,M⟩=false):=by
 have hj:=(List.getElem?_eq_some_iff.1 hd).1;have hp:=h.fx.prog;obtain⟨g,cap,hv,h1,h2⟩:=hp.slice (by omega);obtain⟨_,_,_,_,_,hb⟩:=h.fx.KZ;have c:=fun {c:Nat} {u:Value} (hc:c<10) (hu:(cm d)[c]?=Y u)=>hp.cells hv hd hc hu
 have e:=fun(c:Nat) {u:Value} (hu:(cm n)[c]?=Y u)=>(h.box.cell c hu).1
 refine⟨g,cap,hv,h1,h2,hp.n5,hj,cell_of hb 4 rfl,?_,⟨e 0 rfl,e 1 rfl,e 2 rfl,e 3 rfl,e 4 rfl,e 5 rfl,e 6 rfl,e 7 rfl,e 8 rfl,e 9 rfl⟩,⟨(c (c:=0) (by omega) rfl).1,(c (c:=1) (by omega) rfl).1,(c (c:=2) (by omega) rfl).1,(c (c:=3) (by omega) rfl).1,(c (c:=4) (by omega) rfl).1,(c (c:=5) (by omega) rfl).1,(c (c:=6) (by omega) rfl).1,(c (c:=7) (by omega) rfl).1,(c (c:=8) (by omega) rfl).1,(c (c:=9) (by omega) rfl).1⟩,⟨(c (c:=0) (by omega) rfl).2,(c (c:=1) (by omega) rfl).2,(c (c:=2) (by omega) rfl).2,(c (c:=3) (by omega) rfl).2,(c (c:=4) (by omega) rfl).2,(c (c:=5) (by omega) rfl).2,(c (c:=6) (by omega) rfl).2,(c (c:=7) (by omega) rfl).2,(c (c:=8) (by omega) rfl).2,(c (c:=9) (by omega) rfl).2⟩⟩;rw[<-hv];exact cell_of hp.aT 0 rfl
def rB(w:Wd)(g q:Nat)(n:aH):Wd:=(((((((((w.setCell ⟨g,q,M⟩ (I O n.kind)).setCell ⟨g,q+1,M⟩ (I O n.a)).setCell ⟨g,q+2,M⟩ (I O n.b)).setCell ⟨g,q+3,M⟩ (I O n.c)).setCell ⟨g,q+4,M⟩ (I O n.n)).setCell ⟨g,q+5,M⟩ (I O n.next)).setCell ⟨g,q+6,M⟩ (χ ⟨n.sign.toArray⟩)).setCell ⟨g,q+7,M⟩ (I O n.site)).setCell ⟨g,q+8,M⟩ (I O n.ay)).setCell ⟨g,q+9,M⟩ (U n.els)
theorem j5{r:Except (Nat × Nat) Sp.Bs}(h:FX base b pb s r o p w){g cap:Nat}(n:aH)(hv:p.nv=Z (Y ⟨g,0,M⟩) p.ns.length cap)(hd:p.ns[j]?=Y d) :
  FX base b pb s r o { p with ns:=p.ns.set j n } (rB w g (j*10) n)/\FK b pb p { p with ns:=p.ns.set j n } w (rB w g (j*10) n):=by
 have hj:=(List.getElem?_eq_some_iff.1 hd).1;have step:∀{p':FP} {w':Wd} {d1:aH} (c:Nat) (u:Value) (d2:aH),p'={ p with ns:=p.ns.set j d1 }->FX base b pb s r o p' w'/\FK b pb p p' w w'->c<10->(cm d1).set c u=cm d2 ->
   FX base b pb s r o { p with ns:=p.ns.set j d2 } (w'.setCell ⟨g,j*10+c,M⟩ u)/\FK b pb p { p with ns:=p.ns.set j d2 } w (w'.setCell ⟨g,j*10+c,M⟩ u):=by
  intro p' w' d1 c u d2 e hh hc hu;subst e;obtain⟨h1,k1⟩:=hh;obtain⟨h2,k2⟩:=h1.wN (j:=j) (c:=c) (u:=u) (d:=d1) (d':=d2) (by simpa using hv) (List.getElem?_set_self hj) hc hu;simp only[List.set_set]at h2 k2;exact⟨h2,k1.trans k2⟩
 obtain⟨h0,k0⟩:=h.wN (c:=0) (u:=I O n.kind) (d':={ d with kind:=n.kind }) hv hd (by omega) rfl;have s1:=step 1 (I O n.a) { d with kind:=n.kind,a:=n.a } rfl ⟨h0,k0⟩ (by omega) rfl;have s2:=step 2 (I O n.b) { d with kind:=n.kind,a:=n.a,b:=n.b } rfl s1 (by omega) rfl;have s3:=step 3 (I O n.c) { d with kind:=n.kind,a:=n.a,b:=n.b,c:=n.c } rfl s2 (by omega) rfl;have s4:=step 4 (I O n.n) { d with kind:=n.kind,a:=n.a,b:=n.b,c:=n.c,n:=n.n } rfl s3 (by omega) rfl;have s5:=step 5 (I O n.next) { d with kind:=n.kind,a:=n.a,b:=n.b,c:=n.c,n:=n.n,next:=n.next } rfl s4 (by omega) rfl;have s6:=step 6 (χ ⟨n.sign.toArray⟩) { d with kind:=n.kind,a:=n.a,b:=n.b,c:=n.c,n:=n.n,next:=n.next,sign:=n.sign } rfl s5 (by omega) rfl;have s7:=step 7 (I O n.site) { n with ay:=d.ay,els:=d.els } rfl s6 (by omega) rfl;have s8:=step 8 (I O n.ay) { n with els:=d.els } rfl s7 (by omega) rfl;exact step 9 (U n.els) n rfl s8 (by omega) rfl
end
end
section
theorem Cf(base b pb:Nat)(s:ByteArray):zu 135 base b pb s 0:=by
 intro er p w h;obtain⟨q,t,c6,hz,gU,c3⟩:=h.asks;go_enter func135,ntmps135;go_wp2_with fail;refine(AP base b pb s er p w h).mono ?_;rintro e w1⟨rfl,rfl⟩;go_wp2_with fail
 go_loopw [3] (fun a wr=>a=I O 0/\wr=w1) (fun _ _=>0)
 case atStart=>exact⟨rfl,rfl⟩
 case round =>
  obtain⟨rfl,rfl⟩:=hrel;go_wp2_with fail;go_ret;exact⟨rfl,rfl⟩
theorem xi(base b pb:Nat)(s:ByteArray)(o n:Nat)(u:Sp.Bs->Sp.R Sm)(cQ:∀l x l1,u l=.ok (x,l1)->l1.length<=l.length)(hr:lJ 175 base b pb s o n u):lJ 135 base b pb s o n (bP Tr 0 u):=by
 intro l p w hl h hlim;have HR:=hid hr;have HD:Hid (∀l x l1,u l=.ok (x,l1)->l1.length<=l.length):=cQ;clear hr cQ;go_enter func135,ntmps135;go_wp2_with fail;refine(HR.out l p w hl h hlim).mono ?_;rintro e w1⟨k,p1,rfl,h1,k1,g1⟩;have HC:Hid (Ag base b pb s o p l w 0 u (bP Tr 0 u l) k w1):=⟨u l,p1,h1,k1,g1,tP⟩;clear h1 k1 g1 h;go_wp2_with fail
 go_loopw [3] (fun a wr=>∃k:Int,a=I O k/\Hid (Ag base b pb s o p l w 0 u (bP Tr 0 u l) k wr)) (fun _ wr=>nP b s wr)
 case atStart=>exact⟨k,rfl,HC⟩
 case round =>
  obtain⟨k,rfl,mG⟩:=hrel;obtain⟨cur,pc,hx,hk,hg,uI⟩:=mG.out
  rcases cur with er | ⟨x,lc⟩
  ·obtain⟨q,t,c6,hz,gU,c3⟩:=FE.asks (show FE base b pb s er pc wr from hx)
   have HF:Hid (iR base b pb s o p l w (bP Tr 0 u l) (υ (I O k)) wr):=by unfold Hid;rw[uk uI];exact⟨k,pc,rfl,hx,hk,hg⟩
   clear hx hk hg uI mG HC;go_wp2_with fail;go_ret;exact HF.out
  ·have eG:FR base b pb s lc (o:Int) pc wr:=hx
   obtain⟨c6,c3,dC,vu⟩:=eG.asks;by_cases ie:Sp.tok lc=[43]∨Sp.tok lc=[45]
   ·have Yn:lc.length<=l.length:=by have:=hg.1.nl;have:=hg.1.len;omega
    have Oc:Hid (eI pc lc):=hg.1.D9 hlim;have HW:=hid eG.rest
    rcases ie with ht | ht
    ·have ie:ep (Sp.tok lc)=Y 0:=by rw[ht];rfl
     have HG:Hid (iv p pc l k (.ok (x,lc))/\ep (Sp.tok lc)=Y 0/\Sp.tok lc=[43]/\kK 0 u (bP Tr 0 u l) (roundOf 0 x (u (Sp.next lc)))):=⟨hg,ie,ht,kF uI ie rfl HD.out⟩;have eO:=fC ie;have HL:Hid (eI pc (Sp.next lc)):=(bQ.xY (by omega)).D9 Oc.out;rw[ht]at c3;clear ie ht dC uI hg hx mG HC Oc;go_wp2_with fail;refine(dJ eG).mono ?_;rintro e w2⟨rfl,h2,k2⟩;go_wp2_with fail;refine(HR.out (Sp.next lc) pc w2 (by omega) h2 HL.out).mono ?_;rintro e w3⟨k3,p3,rfl,h3,DZ,g3⟩;have iD:=pD g3 HL.out;have H3:Hid (_/\_/\_):=⟨h3,DZ,g3⟩;clear h3 DZ g3;go_wp2_with fail;refine(lR H3.1 k k3 (-1) [43] iD).mono ?_;rintro e w4⟨rfl,v,h4,k4⟩;have G:=mo (v:=v) (n:={ kind:=4,a:=k,b:=k3,sign:=[43],site:=(-1) }) HG.1 HG.2.1 rfl rfl rfl H3.2.2 rfl rfl rfl HG.2.2.1.symm rfl;have Bx:FX base b pb s (left (roundOf 0 x (u (Sp.next lc)))) (o:Int) _ w4:=j9 h4;have cI:=Bx.pd (m:=lc.length) (fun y l' e=>lQ HD.out HG.2.1 e);have yS:Hid (Ag base b pb s o p l w 0 u (bP Tr 0 u l) (p3.ns.length:Nat) w4):=⟨_,_,Bx,((hk.trans k2).trans H3.2.1).trans k4,G,HG.2.2.2⟩;clear G Bx h4 k4;go_wp2_with fail;exact⟨⟨_,rfl,yS⟩,by rw[HW.out];omega⟩
    ·have ie:ep (Sp.tok lc)=Y 1:=by rw[ht];rfl
     have HG:Hid (iv p pc l k (.ok (x,lc))/\ep (Sp.tok lc)=Y 1/\Sp.tok lc=[45]/\kK 0 u (bP Tr 0 u l) (roundOf 1 x (u (Sp.next lc)))):=⟨hg,ie,ht,kF uI ie rfl HD.out⟩;have eO:=fC ie;have HL:Hid (eI pc (Sp.next lc)):=(bQ.xY (by omega)).D9 Oc.out;rw[ht]at c3;clear ie ht dC uI hg hx mG HC Oc;go_wp2_with fail;refine(dJ eG).mono ?_;rintro e w2⟨rfl,h2,k2⟩;go_wp2_with fail;refine(HR.out (Sp.next lc) pc w2 (by omega) h2 HL.out).mono ?_;rintro e w3⟨k3,p3,rfl,h3,DZ,g3⟩;have iD:=pD g3 HL.out;have H3:Hid (_/\_/\_):=⟨h3,DZ,g3⟩;clear h3 DZ g3;go_wp2_with fail;refine(lR H3.1 k k3 (-1) [45] iD).mono ?_;rintro e w4⟨rfl,v,h4,k4⟩;have G:=mo (v:=v) (n:={ kind:=4,a:=k,b:=k3,sign:=[45],site:=(-1) }) HG.1 HG.2.1 rfl rfl rfl H3.2.2 rfl rfl rfl HG.2.2.1.symm rfl;have Bx:FX base b pb s (left (roundOf 1 x (u (Sp.next lc)))) (o:Int) _ w4:=j9 h4;have cI:=Bx.pd (m:=lc.length) (fun y l' e=>lQ HD.out HG.2.1 e);have yS:Hid (Ag base b pb s o p l w 0 u (bP Tr 0 u l) (p3.ns.length:Nat) w4):=⟨_,_,Bx,((hk.trans k2).trans H3.2.1).trans k4,G,HG.2.2.2⟩;clear G Bx h4 k4;go_wp2_with fail;exact⟨⟨_,rfl,yS⟩,by rw[HW.out];omega⟩
   ·have gI:Hid (bP Tr 0 u l=.ok (x,lc)):=wM uI (fun op ho=>by
     unfold ep at ho;rw[if_neg (fun e=>ie (.inl e)),if_neg (fun e=>ie (.inr e))]at ho
     repeat' split at ho
     all_goals first | (cases ho;simp[cK]) | cases ho)
    have HF:Hid (iR base b pb s o p l w (bP Tr 0 u l) (υ (I O k)) wr):=by unfold Hid;rw[gI.out];exact⟨k,pc,rfl,hx,hk,hg⟩
    have n1:((⟨(Sp.tok lc).toArray⟩:ByteArray).toList == [43])=false:=by rw[ByteArray.toList_eq];simpa using fun e=>ie (.inl e)
    have n2:((⟨(Sp.tok lc).toArray⟩:ByteArray).toList == [45])=false:=by rw[ByteArray.toList_eq];simpa using fun e=>ie (.inr e)
    generalize (⟨(Sp.tok lc).toArray⟩:ByteArray)=t at *;clear hx hk hg uI mG HC ie eG;go_wp2_with fail;go_ret;exact HF.out
end
section
theorem B0{base b pb:Nat}{s:ByteArray}{o:Nat}{u:Sp.Bs->Sp.R Sm}{p p1:FP}{l:Sp.Bs}{k:Int}{w w':Wd}
  (g:∀l1,Sp.enter [40] o l=.ok l1->iv p p1 l1 k (u l1)) (he:∀e,Sp.enter [40] o l=.error e->p1=p) (ht:Sp.tok l=[40])
  (h5:FX base b pb s (((Sp.enter [40] o l).bind fun l=>left (u l)).bind (Sp.take [41])) (o:Int) p1 w') (k5:FK b pb p p1 w w') :
  iR base b pb s o p l w (bX Tr u o l) (υ (I O k)) w':=by
 have eO:=aG ht (by simp);refine⟨_,_,rfl,?_,k5,?_⟩
 ·cases hq:Sp.enter [40] o l with
  | error e=>rw[hq]at h5;unfold bX;rw[hq];exact h5
  | ok l1 =>
   rw[hq]at h5;unfold bX;rw[hq];simp only[Except.bind]at h5 ⊢;cases hu:u l1 with
   | error e=>rw[hu]at h5;exact h5
   | ok xl =>
    rw[hu]at h5;simp only[left]at h5 ⊢;cases Kj:Sp.take [41] xl.2 with
    | error e=>rw[Kj]at h5;exact h5
    | ok l3=>rw[Kj]at h5;exact h5
 ·cases hq:Sp.enter [40] o l with
  | error e =>unfold bX;rw[hq];show dh p p1 l;rw[he e hq];exact dh.refl _ _
  | ok l1 =>
   obtain⟨_,_,yd⟩:=cN hq;have g1:=g l1 hq;unfold bX;rw[hq];simp only;cases hu:u l1 with
   | error e =>rw[hu]at g1;exact dh.more (l1:=l1) g1 (by rw[yd];omega)
   | ok xl =>
    obtain⟨x,l2⟩:=xl;rw[hu]at g1;obtain⟨m1,hj,DV⟩:=g1;have hm:bQ p p1 l l2:=(bQ.xY (by rw[yd];omega)).trans m1;simp only;cases Kj:Sp.take [41] l2 with
    | error e =>exact dh.rv hm
    | ok l3 =>obtain⟨_,h3⟩:=cd Kj;exact⟨hm.trans (bQ.xY (by rw[h3];exact bZ _)),hj,DV⟩
theorem yw(base b pb:Nat)(s:ByteArray)(o n:Nat)(ho:o<=12)(hr:o<12->lJ 135 base b pb s (o+1) n (og Tr (bk Tr n (o+1))))(hi:zu 135 base b pb s 0)
  (l:Sp.Bs) (p:FP) (w:Wd) (hl:l.length<n+1) (h:FR base b pb s l (o:Int) p w) (hlim:eI p l) (ht:Sp.tok l=[40]) :
  Calls prog 210 #[ρ (Y ⟨b,0,M⟩)] w (iR base b pb s o p l w (bk Tr (n+1) o l)):=by
 obtain⟨c6,c3,dC,vu⟩:=h.asks;have hE:Hid (bk Tr (n+1) o l=bX Tr (og Tr (bk Tr n (o+1))) o l):=by unfold Hid;rw[gd,if_neg (nG ht).1,if_neg (nG ht).2,if_neg (by rw[ht];simp)]
 have HN:Hid (∀w,Calls prog 129 #[χ ⟨[40].toArray⟩] w fun e w'=>e=υ (U (aQ l).isSome)/\w'=w):=by rw[<-ht];exact cZ l vu
 have eO:=aG ht (by simp);rw[ht]at c3 dC;have Qq:Hid (∀l1,Sp.enter [40] o l=.ok l1->l1=Sp.next l/\o<12):=fun l1 e=>by obtain⟨_,h2,h3⟩:=cN e;exact⟨h3,by omega⟩
 have HR:=hid hr;have HI:=hid hi;have HT:=hid ht;clear hr ht hi;go_enter func210,ntmps210;go_wp2_with fail;refine(gj _ dC _).mono ?_;rintro e w1⟨rfl,rfl⟩;go_wp2_with fail;refine(HN.out _).mono ?_;rintro e w1⟨rfl,rfl⟩;go_wp2_with fail;refine(AU ho h [40]).mono ?_;rintro e w2⟨rfl,h2,k2⟩;go_wp2_with fail;refine(vZ (o:=o+1) (n:=n) (u:=og Tr (bk Tr n (o+1))) (fun l1 e1=>by obtain⟨e2,e3⟩:=Qq.out l1 e1;refine⟨HR.out e3,by rw[e2];omega,?_⟩;rw[e2];exact(bQ.xY (by omega)).D9 hlim) HI.out h2).mono ?_
 rintro e w3⟨k,p1,rfl,h3,k3,g3,e3⟩;have G3:=hid (And.intro g3 e3);clear g3 e3;go_wp2_with fail;refine(Hi (by omega) h3 [41]).mono ?_;rintro e w4⟨rfl,h4,k4⟩;go_wp2_with fail;go_ret;rw[hE.out];exact B0 G3.1 G3.2 HT.out h4 ((k2.trans k3).trans k4)
theorem FZ(base b pb:Nat)(s:ByteArray)(o n:Nat)
  (l:Sp.Bs) (p:FP) (w:Wd) (h:FR base b pb s l (o:Int) p w) (hlim:eI p l) (kk:Nat) (hv:aQ l=Y kk) :
  Calls prog 210 #[ρ (Y ⟨b,0,M⟩)] w (iR base b pb s o p l w (bk Tr (n+1) o l)):=by
 obtain⟨c6,c3,dC,vu⟩:=h.asks;obtain⟨c,ht,gC,D5,so,rfl⟩:=dD hv;have hE:Hid (bk Tr (n+1) o l=.ok (.name (c.toNat - 97),Sp.next l)):=by unfold Hid;rw[gd,if_neg (by omega),if_pos gC,iG hv];rfl
 have hfv:Hid (oe [c]=-1):=by unfold Hid;rw[<-ht];exact wh (by omega)
 have HN:Hid (∀w,Calls prog 129 #[χ ⟨[c].toArray⟩] w fun e w'=>e=υ (U true)/\w'=w):=by have:=cZ l vu;rw[ht,hv]at this;exact this
 have eO:=aG ht (by simp);obtain⟨t,et,iC,hx⟩:=oJ c;have HV:Hid (∀w,Calls prog 238 #[χ t] w fun e w'=>e=υ (I O (-1))/\w'=w):=by intro w;have:=gj t (by omega) w;rw[et]at this ⊢;rw[show(⟨[c].toArray⟩:ByteArray).data.toList=[c] from rfl,hfv.out]at this;exact this
 rw[ht,<-et]at c3;rw[<-et]at HN;have h0:0<t.size:=by omega
 have uS:(97:Int)<=(t[0].toNat:Int)/\(t[0].toNat:Int)<=104:=by rw[hx];omega
 have aS:Hid (((c.toNat - 97:Nat):Int)=(t[0].toNat:Int) - 97):=by unfold Hid;rw[hx];omega
 have Rn:(t.toList == [45])=false/\(t.toList == [40])=false:=by
  rw[ByteArray.toList_eq,et];constructor
  ·simp;intro e;subst e;simp at so
  ·simp;intro e;subst e;simp at so
 obtain⟨nd1,nd2⟩:=Rn;clear hx et ht hv gC dC;go_enter func210,ntmps210;go_wp2_with fail;refine(HV.out _).mono ?_;rintro e w1⟨rfl,rfl⟩;go_wp2_with fail;refine(HN.out _).mono ?_;rintro e w1⟨rfl,rfl⟩;go_wp2_with fail;refine(dJ h).mono ?_;rintro e w2⟨rfl,h2,k2⟩;go_wp2_with fail;refine(eF (r:=.ok (Sp.next l)) h2 { kind:=2,n:=(t[0].toNat:Int) - 97 } (by have:=hlim.1;omega)).mono ?_;rintro e w3⟨rfl,v,h3,k3⟩;go_wp2_with fail;go_ret;rw[hE.out];have hm:bQ p p l (Sp.next l):=bQ.xY (by omega);refine⟨_,_,rfl,h3,k2.trans k3,hm.node _ v (by omega),⟨p.ns.length,rfl,by simp,?_⟩,by show p.qs=p.qs ++ [];simp⟩;exact⟨_,by simp;rfl,rfl,by rw[aS.out],by omega,Nat.le_refl _,rfl⟩
end
section
section
variable{base b pb o k rel:Nat}
variable{s:ByteArray}
variable{l t l1:Sp.Bs}
variable{w w':Wd}
theorem rh(base b pb:Nat)(s:ByteArray):∀(n o:Nat),o<=12->lJ 210 base b pb s o n (bk Tr n o)
 | 0,_,_=>fun l _ _ hl=>absurd hl (Nat.not_lt_zero _)
 | n+1,o,ho=>by
  intro l p w hl h hlim;have IH:o<12->lJ 210 base b pb s (o+1) n (bk Tr n (o+1)):=fun sl=>rh base b pb s n (o+1) (by omega)
  by_cases TI:Sp.tok l=[45]
  ·exact DJ base b pb s o n ho IH l p w hl h hlim TI
  by_cases Tc:Sp.tok l=[40]
  ·refine yw base b pb s o n ho (fun sl=>?_) (Cf base b pb s) l p w hl h hlim Tc
   have hd:∀l (x:Sm) l1,bk Tr n (o+1) l=.ok (x,l1)->l1.length<=l.length:=fun l x l1 e=>by have:=iK (A:=Tr) n (o+1) l x l1 e;omega
   exact xi base b pb s (o+1) n (oG Tr (bk Tr n (o+1))) (fun l x l1 e=>sC (A:=Tr) hd l x l1 e) (oX base b pb s (o+1) n _ hd (IH sl))
  by_cases hk:aC l=3
  ·cases hv:gA (Sp.tok l) with
   | some v=>exact AF base b pb s o n l p w h hlim hk v hv
   | none =>
    have X5:aQ l=M:=by
     cases hq:aQ l with
     | none=>rfl
     | some q=>have:=ff hq;omega
    refine tV base b pb s o n l p w h TI Tc (by rw[tD hk,hv]) X5 ?_;show bk Tr (n+1) o l=_;rw[gd,if_pos hk,hv];rfl
  ·cases hv:aQ l with
   | some k=>exact FZ base b pb s o n l p w h hlim k hv
   | none =>
    refine tV base b pb s o n l p w h TI Tc (wh hk) hv ?_;show bk Tr (n+1) o l=_;rw[gd,if_neg hk];by_cases gD:aC l=2
    ·rw[if_pos gD,kI hv]
    ·rw[if_neg gD,if_neg TI]
     unfold bX Sp.enter;rw[if_neg Tc];rfl
theorem L4(base b pb:Nat)(s:ByteArray)(o:Nat)(ho:o<=12)(n:Nat):lJ 135 base b pb s o n (og Tr (bk Tr n o)):=by
 have hd:∀l (x:Sm) l1,bk Tr n o l=.ok (x,l1)->l1.length<=l.length:=fun l x l1 e=>by have:=iK (A:=Tr) n o l x l1 e;omega
 exact xi base b pb s o n (oG Tr (bk Tr n o)) (fun l x l1 e=>sC (A:=Tr) hd l x l1 e) (oX base b pb s o n _ hd (rh base b pb s n o ho))
theorem vK{o:Nat}(ho:o<=12){p:FP}(h:FR base b pb s l (o:Int) p w)(hl:eI p l) :
  Calls prog 135 #[ρ (Y ⟨b,0,M⟩)] w (iR base b pb s o p l w (Sp.pS Tr o l)):=L4 base b pb s o ho (l.length+1) l p w (by omega) h hl
def tT(p p':FP)(l:Sp.Bs)(k:Int):Sp.R (Nat × Sm × Sm)->Prop
 | .ok ((rel,x,y),l')=>bQ p p' l l'/\(∃j:Nat,k=(j:Int)/\j<p'.ns.length/\yG p'.ns p.ns.length rel x y j p.ct p'.ct)/\p'.qs=p.qs ++ (fm x ++ fm y)
 | .error _=>dh p p' l
def Mx(base b pb:Nat)(s:ByteArray)(o:Nat)(p:FP)(l:Sp.Bs)(w:Wd)(r:Sp.R (Nat × Sm × Sm))(e:Ending)(w':Wd):Prop :=
 ∃(k:Int) (p':FP),e=υ (I O k)/\FX base b pb s (left r) (o:Int) p' w'/\FK b pb p p' w w'/\tT p p' l k r
def FO(o:Nat):Sp.R Sm->Sp.R (Nat × Sm × Sm)
 | .ok (x,l1)=>(match ea (Sp.tok l1) with
  | some k=>(match Sp.pS Tr o (Sp.next l1) with
   | .ok (y,l2)=>.ok ((k,x,y),l2)
   | .error e=>.error e)
  | none=>.error (2,l1.length))
 | .error e=>.error e
def QP(A:eR)(o:Nat):Sp.R A.S->Sp.R (Nat × A.S × A.S)
 | .ok (x,l1)=>(match ea (Sp.tok l1) with
  | some k=>(match Sp.pS A o (Sp.next l1) with
   | .ok (y,l2)=>.ok ((k,x,y),l2)
   | .error e=>.error e)
  | none=>Sp.bad 2 l1)
 | .error e=>.error e
theorem JH(A:eR)(o:Nat)(l:Sp.Bs):bh A o l=QP A o (Sp.pS A o l):=by
 unfold bh
 rcases Sp.pS A o l with e | ⟨x,l1⟩
 ·rfl
 ·rfl
theorem xB(o:Nat)(l:Sp.Bs):bh Tr o l=FO o (Sp.pS Tr o l):=by
 rw[JH]
 rcases Sp.pS Tr o l with e | ⟨x,l1⟩
 ·rfl
 ·unfold QP FO
  simp only;cases ea (Sp.tok l1) with
  | none=>rfl
  | some k=>simp only;rcases Sp.pS Tr o (Sp.next l1) with e | ⟨y,l2⟩<;>rfl
theorem kX(h:ea t=Y k):t=[60]/\k=0∨t=[60,61]/\k=1∨t=[61,61]/\k=2∨t=[33,61]/\k=3∨t=[62,61]/\k=4∨t=[62]/\k=5:=by
 unfold ea at h
 repeat' split at h
 all_goals first | (rename_i he;cases h;simp[he]) | cases h
theorem Mv{p p1 p3:FP}{k k3:Int}{x:Sm}{n:aH}{v:Value}(hS:Sp.pS Tr o l=.ok (x,l1))(hrel:ea (Sp.tok l1)=Y rel)(ha:n.a=k)(hb:n.b=k3)(hs:n.sign=Sp.tok l1)
  (g1:iv p p1 l k (.ok (x,l1))) (g3:iv p1 p3 (Sp.next l1) k3 (Sp.pS Tr o (Sp.next l1)))
  (h5:FX base b pb s (left (Sp.pS Tr o (Sp.next l1))) (o:Int) { p3 with ns:=p3.ns ++ [n],nv:=v } w') (k5:FK b pb p { p3 with ns:=p3.ns ++ [n],nv:=v } w w') :
  Mx base b pb s o p l w (bh Tr o l) (υ (I O (p3.ns.length:Nat))) w':=by
 rw[xB,hS];obtain⟨m1,⟨j,yT,Ia,Ea⟩,q1⟩:=g1;have eO:(Sp.next l1).length<l1.length:=aG (t:=Sp.tok l1) rfl (by rcases kX hrel with⟨e,_⟩ | ⟨e,_⟩ | ⟨e,_⟩ | ⟨e,_⟩ | ⟨e,_⟩ | ⟨e,_⟩<;>rw[e]<;>simp);refine⟨_,_,rfl,?_,k5,?_⟩
 ·show FX base b pb s (left (match ea (Sp.tok l1) with
   | some k=>(match Sp.pS Tr o (Sp.next l1) with
    | .ok (y,l2)=>.ok ((k,x,y),l2)
    | .error e=>.error e)
   | none=>.error (2,l1.length):Sp.R (Nat × Sm × Sm))) _ _ _
  rw[hrel]
  rcases hq:Sp.pS Tr o (Sp.next l1) with e | ⟨y,l2⟩
  ·rw[hq]at h5;exact h5
  ·rw[hq]at h5;exact h5
 ·show tT _ _ _ _ (match ea (Sp.tok l1) with
   | some k=>(match Sp.pS Tr o (Sp.next l1) with
    | .ok (y,l2)=>.ok ((k,x,y),l2)
    | .error e=>.error e)
   | none=>.error (2,l1.length))
  rw[hrel]
  rcases hq:Sp.pS Tr o (Sp.next l1) with e | ⟨y,l2⟩
  ·rw[hq]at g3
   exact dh.made m1 (dh.node (l1:=Sp.next l1) g3 eO n v)
  ·rw[hq]at g3
   obtain⟨m2,⟨j2,i1,i2,i3⟩,q2⟩:=g3;have hlen:=m2.len;have XQ:=m1.len;have hm:bQ p p3 l l2:=(m1.trans (bQ.xY (by omega))).trans m2;refine⟨hm.node n v (by have:=m1.nl;have:=m2.nl;omega),⟨p3.ns.length,rfl,by simp,?_⟩,by show p3.qs=_;rw[q2,q1,List.append_assoc]⟩;refine⟨n,j,j2,p1.ct,by simp,by rw[ha,yT],by rw[hb,i1],?_,?_,by omega,i2,Ea.mono (Nat.le_refl _) (fun i _ hi=>?_),i3.mono XQ (fun i _ hi=>?_)⟩
   ·rw[hs];rcases kX hrel with⟨e,e'⟩ | ⟨e,e'⟩ | ⟨e,e'⟩ | ⟨e,e'⟩ | ⟨e,e'⟩ | ⟨e,e'⟩<;>rw[e,e']<;>rfl
   ·rcases kX hrel with⟨e,e'⟩ | ⟨e,e'⟩ | ⟨e,e'⟩ | ⟨e,e'⟩ | ⟨e,e'⟩ | ⟨e,e'⟩<;>omega
   ·show(p3.ns ++ [n])[i]?=_
    rw[List.getElem?_append_left (by omega)];exact m2.at (by omega)
   ·show(p3.ns ++ [n])[i]?=_
    rw[List.getElem?_append_left (by omega)]
theorem oO{o:Nat}(ho:o<=12){p:FP}(h:FR base b pb s l (o:Int) p w)(hl:eI p l) :
  Calls prog 133 #[ρ (Y ⟨b,0,M⟩)] w (Mx base b pb s o p l w (bh Tr o l)):=by
 have HS:=vK ho h hl
 rcases hS:Sp.pS Tr o l with er | ⟨x,l1⟩
 ·rw[hS]at HS
  have HE:Hid (bh Tr o l=.error er):=by unfold Hid;rw[xB,hS];rfl
  have Xk:=hid HS;clear HS hS h;go_enter func133,ntmps133;go_wp2_with fail;refine Xk.mono ?_;rintro e w1⟨k,p1,rfl,h1,k1,g1⟩;obtain⟨q,t,c6,hz,gU,c3⟩:=FE.asks (show FE base b pb s er p1 w1 from h1);have H1:Hid (_/\_/\_):=⟨h1,k1,g1⟩;clear h1 k1 g1;go_wp2_with fail;go_ret;rw[HE.out];exact⟨0,p1,rfl,H1.1,H1.2.1,H1.2.2⟩
 ·rw[hS]at HS
  have Xk:=hid HS;have HSS:=hid hS;clear HS hS h;cases hrel:ea (Sp.tok l1) with
  | none =>
   have HE:Hid (bh Tr o l=.error (2,l1.length)):=by unfold Hid;rw[xB,HSS.out];simp only[FO,hrel];rfl
   have dF:∀t∈[[60],[60,61],[61,61],[33,61],[62,61],[62]],Sp.tok l1≠t:=by
    intro t ht e;rw[e]at hrel;simp at ht
    rcases ht with rfl | rfl | rfl | rfl | rfl | rfl<;>simp[ea]at hrel
   have n1:((⟨(Sp.tok l1).toArray⟩:ByteArray).toList == [60])=false:=by rw[ByteArray.toList_eq];simpa using dF [60] (by simp)
   have n2:((⟨(Sp.tok l1).toArray⟩:ByteArray).toList == [60,61])=false:=by rw[ByteArray.toList_eq];simpa using dF [60,61] (by simp)
   have n3:((⟨(Sp.tok l1).toArray⟩:ByteArray).toList == [61,61])=false:=by rw[ByteArray.toList_eq];simpa using dF [61,61] (by simp)
   have n4:((⟨(Sp.tok l1).toArray⟩:ByteArray).toList == [33,61])=false:=by rw[ByteArray.toList_eq];simpa using dF [33,61] (by simp)
   have n5:((⟨(Sp.tok l1).toArray⟩:ByteArray).toList == [62,61])=false:=by rw[ByteArray.toList_eq];simpa using dF [62,61] (by simp)
   have n6:((⟨(Sp.tok l1).toArray⟩:ByteArray).toList == [62])=false:=by rw[ByteArray.toList_eq];simpa using dF [62] (by simp)
   clear dF hrel;go_enter func133,ntmps133;go_wp2_with fail;refine Xk.mono ?_;rintro e w1⟨k,p1,rfl,h1,k1,g1⟩;have eG:FR base b pb s l1 (o:Int) p1 w1:=h1;obtain⟨c6,c3,dC,vu⟩:=eG.asks;have H1:Hid (_/\_/\_):=⟨h1,k1,g1⟩;have HB:Hid (⟨(Sp.tok l1).toArray⟩=(⟨(Sp.tok l1).toArray⟩:ByteArray)):=rfl;clear h1 k1 g1 Xk HSS dC HB;generalize (⟨(Sp.tok l1).toArray⟩:ByteArray)=t at *;go_wp2_with fail;refine(oR eG 2 (by decide) 2 rfl).mono ?_;rintro e w2⟨rfl,h2,k2⟩;obtain⟨q,t2,c62,hz,gU,c32⟩:=h2.asks;go_wp2_with fail;go_ret;rw[HE.out];exact⟨0,p1,rfl,h2,H1.2.1.trans k2,dh.rv H1.2.2.1⟩
  | some rel =>
   have ZZ:=hid hrel
   rcases kX hrel with⟨ht,_⟩ | ⟨ht,_⟩ | ⟨ht,_⟩ | ⟨ht,_⟩ | ⟨ht,_⟩ | ⟨ht,_⟩
   all_goals
    have HT:=hid ht;have eO:=aG ht (by simp);clear hrel;go_enter func133,ntmps133;go_wp2_with fail;refine Xk.mono ?_;rintro e w1⟨k,p1,rfl,h1,k1,g1⟩;have eG:FR base b pb s l1 (o:Int) p1 w1:=h1;obtain⟨c6,c3,dC,vu⟩:=eG.asks;rw[ht]at c3;have HL:Hid (eI p1 (Sp.next l1)):=(g1.1.trans (bQ.xY (by omega))).D9 hl;have H1:Hid (_/\_/\_):=⟨h1,k1,g1⟩;clear h1 k1 g1 dC ht;go_wp2_with fail;refine(dJ eG).mono ?_;rintro e w2⟨rfl,h2,k2⟩;go_wp2_with fail;refine(vK ho h2 HL.out).mono ?_;rintro e w3⟨k3,p3,rfl,h3,DZ,g3⟩;have iD:=pD g3 HL.out;have H3:Hid (_/\_/\_):=⟨h3,DZ,g3⟩;clear h3 DZ g3;go_wp2_with fail;refine(eF H3.1 { kind:=5,a:=k,b:=k3,sign:=_ } iD).mono ?_;rintro e w4⟨rfl,v,h4,k4⟩;go_wp2_with fail;go_ret;exact Mv HSS.out ZZ.out rfl rfl HT.symm H1.2.2 H3.2.2 h4 (((H1.2.1.trans k2).trans H3.2.1).trans k4)
end
end
end Go.Proofs.YtiopfihjmkfdmaaGreatDoor
