import Derived.Test.YtiopfihjmkfdmabGreatDoorC20
import Derived.Deep.Cut
import Derived.Laws.BytesString
import Derived.Laws.Concat
namespace Go.Proofs.YtiopfihjmkfdmabGreatDoor
open Option renaming some->Y,none->M
open Go.Value renaming slice->Z,int->I,bool->U,string->χ,pointer->ρ,tuple->φ
open Go.IntKind renaming i64->O
open Go.Ending renaming returned->υ
open Go.Obj renaming cells->L
open Go.Proofs.Tryz Sp
open Go.RowKit
set_option maxRecDepth 100000
set_option maxHeartbeats 16000000
section
section
variable{ns sJ:List aK}
variable{lo Dx rel k:Nat}
def rF(ns:List aK)(lo:Nat):Sm->Nat->Ct->Ct->Prop
 |.num n,k,ct,bj=>∃d,ns[k]?=Y d/\d.kind=1/\d.n=(n:Int)/\n<=32767/\lo<=k/\bj=ct
 |.name v,k,ct,bj=>∃d,ns[k]?=Y d/\d.kind=2/\d.n=(v:Int)/\v<8/\lo<=k/\bj=ct
 |.neg x,k,ct,bj=>∃d a,ns[k]?=Y d/\d.kind=3/\d.a=((a:Nat):Int)/\a<k/\rF ns lo x a ct bj
 | .bin op x y,k,ct,bj=>∃d a b ct1,ns[k]?=Y d/\d.kind=4/\d.a=((a:Nat):Int)/\d.b=((b:Nat):Int)/\d.sign=bB op/\op<5/\a<k/\b<k/\rF ns lo x a ct ct1 /\
   (d.site=if 3<=op then ct1.2 else -1)/\rF ns lo y b (if 3<=op then Sp.aL ct1 else ct1) bj
theorem rF.ge:∀{x:Sm} {k:Nat} {ct bj:Ct},rF ns lo x k ct bj->lo<=k
 |.num _,_,_,_,⟨_,_,_,_,_,h,_⟩=>h
 |.name _,_,_,_,⟨_,_,_,_,_,h,_⟩=>h
 |.neg _,_,_,_,⟨_,_,_,_,_,h,h2⟩=>by have:=rF.ge h2;omega
 |.bin _ _ _,_,_,_,⟨_,_,_,_,_,_,_,_,_,_,h,_,h2,_⟩=>by have:=rF.ge h2;omega
theorem rF.mono(zR:Dx<=lo):∀{x:Sm} {k:Nat} {ct bj:Ct},(∀i,lo<=i->i<=k->sJ[i]?=ns[i]?)->rF ns lo x k ct bj->rF sJ Dx x k ct bj
 |.num _,k,_,_,pv,⟨d,h1,h2,h3,h4,h5,h6⟩=>⟨d,by rw[pv k h5 È];exact h1,h2,h3,h4,À,h6⟩
 |.name _,k,_,_,pv,⟨d,h1,h2,h3,h4,h5,h6⟩=>⟨d,by rw[pv k h5 È];exact h1,h2,h3,h4,À,h6⟩
 |.neg _,k,_,_,pv,⟨d,a,h1,h2,h3,h4,h5⟩=>⟨d,a,by rw[pv k (by have:=h5.ge;omega) È];exact h1,h2,h3,h4,h5.mono zR (λi hi Ud=>pv i hi À)⟩
 |.bin _ _ _,k,_,_,pv,⟨d,a,b,ct1,h1,h2,h3,h4,h5,h6,h7,h8,h9,gW,wD⟩=>⟨d,a,b,ct1,by rw[pv k (by have:=h9.ge;omega) È];exact h1,h2,h3,h4,h5,h6,h7,h8,h9.mono zR (λi hi Ud=>pv i hi À),gW,wD.mono zR (λi hi Ud=>pv i hi À)⟩
def Ao(ns:List aK)(lo:Nat)(rel:Nat)(x y:Sm)(k:Nat)(ct bj:Ct):Prop:=
 ∃d a b ct1,ns[k]?=Y d/\d.a=((a:Nat):Int)/\d.b=((b:Nat):Int)/\d.sign=aM rel/\rel<6/\a<k/\b<k/\rF ns lo x a ct ct1/\rF ns lo y b ct1 bj
theorem Ao.ge{x y:Sm}{ct bj:Ct}(h:Ao ns lo rel x y k ct bj):lo<=k:=by obtain⟨_,_,_,_,_,_,_,_,_,h1,_,h2,_⟩:=h;have:=h2.ge;omega
theorem Ao.mono(zR:Dx<=lo){x y:Sm}{ct bj:Ct}(pv:∀i,lo<=i->i<=k->sJ[i]?=ns[i]?)(h:Ao ns lo rel x y k ct bj):Ao sJ Dx rel x y k ct bj:=by have hk:=h.ge;obtain⟨d,a,b,ct1,h1,h2,h3,h4,h5,h6,h7,h8,h9⟩:=h;exact⟨d,a,b,ct1,by rw[pv k hk È];exact h1,h2,h3,h4,h5,h6,h7,h8.mono zR (λi hi Ud=>pv i hi À),h9.mono zR (λi hi Ud=>pv i hi À)⟩
def jZ(ns:List aK)(lo hi:Nat):Bl->Int->Ct->Ct->Prop
 |.nil,k,ct,bj=>k=-1/\bj=ct
 |.assign v x rest,k,ct,bj=>∃(j a:Nat) (d:aK) (ct1:Ct),k=(j:Int)/\lo<=j/\j<hi/\ns[j]?=Y d/\d.aA=ct.1/\d.kind=6/\d.n=(v:Int)/\v<8/\d.a=(a:Int)/\a<hi/\rF ns lo x a (Sp.aD ct) ct1/\jZ ns lo hi rest d.next ct1 bj
 |.read v rest,k,ct,bj=>∃(j:Nat) (d:aK),k=(j:Int)/\lo<=j/\j<hi/\ns[j]?=Y d/\d.aA=ct.1/\d.kind=7/\d.n=(v:Int)/\v<8/\jZ ns lo hi rest d.next (Sp.aD ct) bj
 |.assert rel x y rest,k,ct,bj=>∃(j a:Nat) (d:aK) (ct1:Ct),k=(j:Int)/\lo<=j/\j<hi/\ns[j]?=Y d/\d.aA=ct.1/\d.kind=8/\d.site=ct.2/\d.a=(a:Int)/\a<hi/\Ao ns lo rel x y a (Sp.aL (Sp.aD ct)) ct1/\jZ ns lo hi rest d.next ct1 bj
 |.ite rel x y xs els ys rest,k,ct,bj=>∃(j a:Nat) (d:aK) (ct1 ct2 nL:Ct),k=(j:Int)/\lo<=j/\j<hi/\ns[j]?=Y d/\d.aA=ct.1/\d.kind=9/\d.els=els/\d.a=(a:Int)/\a<hi/\Ao ns lo rel x y a (Sp.aD ct) ct1/\jZ ns lo hi xs d.b ct1 ct2/\jZ ns lo hi ys d.c ct2 nL/\(els=false->ys=.nil)/\jZ ns lo hi rest d.next nL bj
 |.loop rel x y xs rest,k,ct,bj=>∃(j a:Nat) (d:aK) (ct1 ct2:Ct),k=(j:Int)/\lo<=j/\j<hi/\ns[j]?=Y d/\d.aA=ct.1/\d.kind=10/\d.a=(a:Int)/\a<hi/\Ao ns lo rel x y a (Sp.aD ct) ct1/\jZ ns lo hi xs d.b ct1 ct2/\jZ ns lo hi rest d.next ct2 bj
theorem jZ.mono{hi pw:Nat}(zR:Dx<=lo)(Kh:hi<=pw)(pv:∀i,lo<=i->i<hi->sJ[i]?=ns[i]?):∀{x:Bl} {k:Int} {ct bj:Ct},jZ ns lo hi x k ct bj->jZ sJ Dx pw x k ct bj
 |.nil,_,_,_,h=>h
 |.assign _ _ _,_,_,_,⟨j,a,d,c1,h1,h2,h3,h4,h5,h6,h7,h8,h9,gW,wD,ud⟩=>⟨j,a,d,c1,h1,À,À,by rw[pv j h2 h3];exact h4,h5,h6,h7,h8,h9,À,wD.mono zR (λi hi Ud=>pv i hi À),ud.mono zR Kh pv⟩
 |.read _ _,_,_,_,⟨j,d,h1,h2,h3,h4,h5,h6,h7,h8,h9⟩=>⟨j,d,h1,À,À,by rw[pv j h2 h3];exact h4,h5,h6,h7,h8,h9.mono zR Kh pv⟩
 |.assert _ _ _ _,_,_,_,⟨j,a,d,c1,h1,h2,h3,h4,h5,h6,h7,h8,h9,gW,wD⟩=>⟨j,a,d,c1,h1,À,À,by rw[pv j h2 h3];exact h4,h5,h6,h7,h8,À,gW.mono zR (λi hi Ud=>pv i hi À),wD.mono zR Kh pv⟩
 |.ite _ _ _ _ _ _ _,_,_,_,⟨j,a,d,c1,c2,c3,h1,h2,h3,h4,h5,h6,h7,h8,h9,gW,wD,ud,h13,h14⟩=>⟨j,a,d,c1,c2,c3,h1,À,À,by rw[pv j h2 h3];exact h4,h5,h6,h7,h8,À,gW.mono zR (λi hi Ud=>pv i hi À),wD.mono zR Kh pv,ud.mono zR Kh pv,h13,h14.mono zR Kh pv⟩
 |.loop _ _ _ _ _,_,_,_,⟨j,a,d,c1,c2,h1,h2,h3,h4,h5,h6,h7,h8,h9,gW,wD⟩=>⟨j,a,d,c1,c2,h1,À,À,by rw[pv j h2 h3];exact h4,h5,h6,h7,À,h9.mono zR (λi hi Ud=>pv i hi À),gW.mono zR Kh pv,wD.mono zR Kh pv⟩
def fR:Sm->List Int
 |.num n=>[(n:Int)]
 |.name _=>[]
 |.neg x=>fR x
 |.bin _ x y=>fR x++fR y
def i6:Bl->List Int
 |.nil=>[]
 |.assign _ x rest=>fR x++i6 rest
 |.read _ rest=>i6 rest
 |.assert _ x y rest=>fR x++fR y++i6 rest
 |.ite _ x y xs _ ys rest=>fR x++fR y++i6 xs++i6 ys++i6 rest
 |.loop _ x y xs rest=>fR x++fR y++i6 xs++i6 rest
end
end
section
section
variable{pb g cap j:Nat}
variable{ns:List aK}
structure dC(pb g cap:Nat)(ns:List aK)(w:Wd):Prop where
 slice:w.cell? ⟨pb,0,M⟩=Y (Z (Y ⟨g,0,M⟩) ns.length cap)
 cells:∀(j:Nat) (d:aK) (c:Nat) (u:Value),ns[j]?=Y d->c<10->(cA d)[c]?=Y u->w.cell? ⟨g,j*10+c,M⟩=Y u
 ltp:pb<w.heap.size
 ltg:g<w.heap.size
 nH:ns.length<=cap
 hmax:cap<=maxLen
 hn:ns.length<=2000
theorem dC.after{w w':Wd}(h:dC pb g cap ns w)(hb:ω w w'):dC pb g cap ns w':=
 ⟨by rw[hb.cell (p:=⟨pb,0,M⟩) h.ltp];exact h.slice,λj d c u h1 h2 h3=>by rw[hb.cell (p:=⟨g,j*10+c,M⟩) h.ltg];exact h.cells j d c u h1 h2 h3,Nat.lt_of_lt_of_le h.ltp hb.size,Nat.lt_of_lt_of_le h.ltg hb.size,h.nH,h.hmax,h.hn⟩
theorem dC.facts{w:Wd}(h:dC pb g cap ns w){d:aK}(hd:ns[j]?=Y d) :
  j<ns.length/\w.cell? ⟨g,j*10,M⟩=Y (I O d.kind)/\w.cell? ⟨g,j*10+1,M⟩=Y (I O d.a)/\w.cell? ⟨g,j*10+2,M⟩=Y (I O d.b)/\w.cell? ⟨g,j*10+3,M⟩=Y (I O d.c)/\w.cell? ⟨g,j*10+4,M⟩=Y (I O d.n)/\w.cell? ⟨g,j*10+5,M⟩=Y (I O d.next)/\w.cell? ⟨g,j*10+6,M⟩=Y (χ ⟨d.sign.toArray⟩)/\w.cell? ⟨g,j*10+7,M⟩=Y (I O d.site)/\w.cell? ⟨g,j*10+8,M⟩=Y (I O d.aA)/\w.cell? ⟨g,j*10+9,M⟩=Y (U d.els):=by
 have c:=λ(c:Nat) {u:Value} (hc:c<10) (hu:(cA d)[c]?=Y u)=>h.cells j d c u hd hc hu
 exact⟨(Í.1 hd).1,c 0 À rfl,c 1 À rfl,c 2 À rfl,c 3 À rfl,c 4 À rfl,c 5 À rfl,c 6 À rfl,c 7 À rfl,c 8 À rfl,c 9 À rfl⟩
end
end
section
variable{l r:Sp.Bs}
theorem jL{c:UInt8}(h:Sp.tok l=c::r)(hc:Sp.isLet c=true):aC l=2:=by
 cases l with
 |nil=>simp[Sp.tok]at h
 |cons d q=>
  have e:d=c:=by
   unfold Sp.tok at h;cases hn:bh (d::q) with
   |zero=>rw[hn]at h;simp at h
   |succ m=>rw[hn,á]at h;exact(List.cons.inj h).1
  subst e;rw[cj,Á hc]
theorem L0{c:UInt8}(h:Sp.tok l=c::r)(hc:bC c=true):aC l=3:=by
 cases l with
 |nil=>simp[Sp.tok]at h
 |cons d q=>
  have e:d=c:=by
   unfold Sp.tok at h;cases hn:bh (d::q) with
   |zero=>rw[hn]at h;simp at h
   |succ m=>rw[hn,á]at h;exact(List.cons.inj h).1
  subst e;rw[cj,Â,Á hc];intro k;unfold Sp.isLet at k;unfold bC at hc;simp at k hc;omega
theorem dw(l:Sp.Bs)(hl:l.length<=400)(w:Wd) :
  Calls prog 124 #[χ ⟨(Sp.tok l).toArray⟩] w λe w'=>e=υ (U (aS l).isSome)/\w'=w:=by
 have hln:=ef l;have hle:=fY l;by_cases h1:(Sp.tok l).length=1
 .obtain⟨c,ht⟩:∃c,Sp.tok l=[c]:=by
   match hm:Sp.tok l,h1 with
   |[c],_=>exact⟨c,rfl⟩
  obtain⟨t,et,jW,hx⟩:=pO c;have h0:0<t.size:=À;have e:Hid ((aS l).isSome=(decide (97<=c.toNat)&&decide (c.toNat<=104))):=by
   unfold Hid;by_cases hc:97<=c.toNat/\c.toNat<=104
   .have hk:=jL ht (by unfold Sp.isLet;simp;omega)
    have:aS l=Y (c.toNat-97):=by unfold aS;rw[ht];simp[hk];omega
    rw[this];simp;omega
   .cases hv:aS l with
    |none=>simp;omega
    |some k=>
     obtain⟨c',e1,_,e3,e4,_⟩:=dY hv;rw[ht]at e1;cases e1
     omega
  rw[ht,<-et];have xy:t[0].toNat=c.toNat:=by rw[hx]
  clear hx et ht h1 hln hle;go_enter func124,ntmps124
  go_wp2
  all_goals
   go_ret;exact⟨bt (by rw[e.out,Bool.eq_iff_iff];simp;omega),rfl⟩
 .have e:Hid ((aS l).isSome=false):=by
   unfold Hid;cases hv:aS l with
   |none=>rfl
   |some k=>obtain⟨c',e1,_⟩:=dY hv;rw[e1]at h1;simp at h1
  have ea:(⟨(Sp.tok l).toArray⟩:ByteArray).size=(Sp.tok l).length:=oe _;have abo:(⟨(Sp.tok l).toArray⟩:ByteArray).size<=400:=À;generalize (⟨(Sp.tok l).toArray⟩:ByteArray)=t at*;have hb:((t.size:Int)==1)=false:=by simp;omega
  have DK:¬(t.size:Int)=1:=À;clear ea;go_enter func124,ntmps124;go_wp2_with fail;go_ret;exact⟨bt e.symm,rfl⟩
def ph(t:Sp.Bs):Int:=if t=[]∨5<t.length∨(t.head?=Y 48/\1<t.length) then -1 else if(∀c∈t,bC c=true) then(if bn t<=32767 then(bn t:Int) else -1) else -1
theorem CL(t:Sp.Bs)(c:UInt8):bn (t++[c])=bn t*10+(c.toNat-48):=by unfold bn;rw[List.foldl_append];rfl
theorem take_succ(t:ByteArray)(i:Nat)(h:i<t.size):t.data.toList.take (i+1)=t.data.toList.take i++[t[i]]:=by rw[List.take_add_one,byte_at t i h];rfl
theorem gS(t:ByteArray)(ht:t.size<=400)(w:Wd) :
  Calls prog 223 #[χ t] w λe w'=>e=υ (I O (ph t.data.toList))/\w'=w:=by
 have hlen:t.data.toList.length=t.size:=Ä;by_cases h0:t.size=0
 .have e:Hid (ph t.data.toList=-1):=by unfold Hid ph;rw[Á (.inl (List.length_eq_zero_iff.1 À))]
  have hb:t.toList.isEmpty=true:=by rw[ByteArray.toList_eq,List.length_eq_zero_iff.1 (by omega:t.data.toList.length=0)];rfl
  clear hlen;go_enter func223,ntmps223;go_wp2_with fail;go_ret;exact⟨dc e.symm,rfl⟩
 .have hb:t.toList.isEmpty=false:=by
   rw[ByteArray.toList_eq];cases he:t.data.toList with
   |nil=>rw[he]at hlen;simp at hlen;omega
   |cons _ _=>rfl
  by_cases h5:5<t.size
  .have e:Hid (ph t.data.toList=-1):=by unfold Hid ph;rw[Á (.inr (.inl À))]
   have h5i:(5:Int)<(t.size:Int):=À;clear hlen;go_enter func223,ntmps223;go_wp2_with fail;go_ret;exact⟨dc e.symm,rfl⟩
  .have h5i:¬(5:Int)<(t.size:Int):=À
   have hp:0<t.size:=À;have hhd:t.data.toList.head?=Y t[0]:=by rw[List.head?_eq_getElem?];exact byte_at t 0 hp
   by_cases Tc:(t[0].toNat:Int)=48/\1<t.size
   .have e:Hid (ph t.data.toList=-1):=by unfold Hid ph;rw[Á (.inr (.inr ⟨by rw[hhd];congr 1;exact ç.1 (by show t[0].toNat=48;omega),À⟩))]
    obtain⟨Tc,h1⟩:=Tc;have h1i:(1:Int)<(t.size:Int):=À;clear hlen hhd;go_enter func223,ntmps223;go_wp2_with fail;go_ret;exact⟨dc e.symm,rfl⟩
   .have e:Hid (ph t.data.toList=if(∀c∈t.data.toList,bC c=true) then(if bn t.data.toList<=32767 then(bn t.data.toList:Int) else -1) else -1):=by
     unfold Hid ph;rw[Â];rintro(h|h|⟨h,h'⟩)
     .rw[h]at hlen;simp at hlen;omega
     .omega
     .rw[hhd]at h
      have:t[0]=48:=Ï h;exact Tc ⟨by rw[this];rfl,À⟩
    have wI:((t[0].toNat:Int)==48)=false/\¬(t[0].toNat:Int)=48∨((t[0].toNat:Int)==48)=true/\(t[0].toNat:Int)=48/\¬(1:Int)<(t.size:Int):=by
     by_cases h:(t[0].toNat:Int)=48
     .exact .inr ⟨by simpa using h,h,À⟩
     .exact .inl ⟨by simpa using h,h⟩
    clear hhd Tc hlen
    rcases wI with⟨k1,k2⟩|⟨k1,k2,k3⟩
    all_goals
     go_enter func223,ntmps223;go_wp2_with fail
     go_loopw [3,4] (λn i wr=>∃j:Nat,j<=t.size/\Hid (∀c∈t.data.toList.take j,bC c=true)/\Hid (bn (t.data.toList.take j)<10 ^ j)/\n=I O (bn (t.data.toList.take j):Nat)/\i=I O j/\wr=w) (λ_ i _=>t.size-(intOf i).toNat)
     case atStart=>exact⟨0,Ì,by intro c hc;simp at hc,by show bn []<_;decide,rfl,rfl,rfl⟩
     case round=>
      obtain⟨j,hj,hd,hn,rfl,rfl,rfl⟩:=hrel;have lX:bn (t.data.toList.take j)<100000:=Nat.lt_of_lt_of_le hn.out (Nat.pow_le_pow_right À (by omega:j<=5));by_cases Ga:j<t.size
      .have wJ:(j:Int)<(t.size:Int):=À
       by_cases hc:bC t[j]=true
       .have hcr:48<=t[j].toNat/\t[j].toNat<=57:=by unfold bC at hc;simpa using hc
        have X7:Hid (∀c∈t.data.toList.take (j+1),bC c=true):=by
         intro c hcm;rw[take_succ t j Ga]at hcm
         rcases List.mem_append.1 hcm with h|h
         .exact hd.out c h
         .simp at h;rw[h];exact hc
        have jW:Hid (bn (t.data.toList.take (j+1))=bn (t.data.toList.take j)*10+(t[j].toNat-48)):=by unfold Hid;rw[take_succ t j Ga,CL]
        have nO:Hid (bn (t.data.toList.take (j+1))<10 ^ (j+1)):=by unfold Hid;rw[jW.out,Nat.pow_succ];have:=hn.out;omega
        clear hn hd;generalize bn (t.data.toList.take j)=m at*;have hu:(48:Int)<=(t[j].toNat:Int)/\(t[j].toNat:Int)<=57:=À;go_wp2_with fail;refine(gV _ _).mono ?_;rintro e w'⟨rfl,rfl⟩;rw[hc];go_wp2_with fail;exact⟨⟨j+1,À,X7,nO,by rw[jW.out];go_num,by go_num,trivial⟩,by simp[intOf];omega⟩
       .have Qq:bC t[j]=false:=by simpa using hc
        have δ:Hid (ph t.data.toList=-1):=by unfold Hid;rw[e.out,Â];intro xv;exact hc (xv _ (Ù (byte_at t j Ga)))
        clear hn hd e;generalize bn (t.data.toList.take j)=m at*;go_wp2_with fail;refine(gV _ _).mono ?_;rintro e w'⟨rfl,rfl⟩;rw[Qq];go_wp2_with fail;go_ret;exact⟨dc δ.symm,rfl⟩
      .have wJ:¬(j:Int)<(t.size:Int):=À
       have Dr:t.data.toList.take j=t.data.toList:=List.take_of_length_le (by simp;omega);have δ:Hid (ph t.data.toList=if bn (t.data.toList.take j)<=32767 then(bn (t.data.toList.take j):Int) else -1):=by unfold Hid;rw[e.out,Á (by have:=hd.out;rw[Dr]at this;exact this),Dr]
       clear hn hd e Dr;generalize bn (t.data.toList.take j)=m at*;by_cases hm:m<=32767
       .have hmi:¬(32767:Int)<(m:Int):=À
        go_wp2_with fail;go_ret;exact⟨dc (by rw[δ.out,Á hm]),rfl⟩
       .have hmi:(32767:Int)<(m:Int):=À
        go_wp2_with fail;go_ret;exact⟨dc (by rw[δ.out,Â hm]),rfl⟩
theorem wC:∀(t:Sp.Bs) (a:Nat),a*10 ^ t.length<=eM a t
 |[],a=>by show a*10 ^ 0<=a;omega
 |c::r,a=>by have h:=wC r (a*10+(c.toNat-48));have e:eM a (c::r)=eM (a*10+(c.toNat-48)) r:=rfl;rw[e,List.length_cons,Nat.pow_succ];refine Nat.le_trans ?_ h;rw[Nat.add_mul,Nat.mul_comm (10 ^ r.length) 10,<-Nat.mul_assoc];omega
theorem vV(h:aC l=3):ph (Sp.tok l)=match gh (Sp.tok l) with
  |some v=>(v:Int)
  |none=>-1:=by
 obtain⟨db,hd⟩:=dA h;unfold ph gh;by_cases h1:1<(Sp.tok l).length/\(Sp.tok l).head?=Y 48
 .rw[Á (.inr (.inr ⟨h1.2,h1.1⟩)),Á h1]
 .rw[Â h1]
  by_cases h5:5<(Sp.tok l).length
  .rw[Á (.inr (.inl h5)),Â]
   cases ht:Sp.tok l with
   |nil=>exact absurd ht db
   |cons c r=>
    rw[ht]at h5 h1 hd;have hc:=hd c Ä;unfold bC at hc;simp at hc;have px:c.toNat≠48:=λe=>h1 ⟨by simp at h5⊢;omega,by simp;exact ç.1 e⟩
    have e:bn (c::r)=eM (0*10+(c.toNat-48)) r:=rfl;have hp:=wC r (0*10+(c.toNat-48));have gW:10 ^ 5<=10 ^ r.length:=Nat.pow_le_pow_right À (by simp at h5;omega);have wD:1*10 ^ r.length<=(0*10+(c.toNat-48))*10 ^ r.length:=î _ À;rw[e];omega
  .rw[Â (by rintro(k|k|k);exact db k;exact h5 k;exact h1 ⟨k.2,k.1⟩),Á hd]
   split<;>rfl
theorem y4(h:aC l≠3):ph (Sp.tok l)=-1:=by
 unfold ph;split
 .rfl
 .rename_i hn
  rw[Â];intro xv;cases ht:Sp.tok l with
  |nil=>exact hn (.inl ht)
  |cons c r=>exact h (L0 ht (xv c (by rw[ht];simp)))
end
section
section
variable{p p' p1 p2:FP}
variable{l l' l1 l2:Sp.Bs}
variable{i pb gg cap:Nat}
def left{α:Type}:Sp.R α->Except (Nat×Nat) Sp.Bs
 |.ok (_,l)=>.ok l
 |.error e=>.error e
def In64(n:Int):Prop:=-9223372036854775808<=n/\n<=9223372036854775807
def fu(p:FP)(l:Sp.Bs):Prop:=p.ns.length+2*l.length<=2000/\p.qs.length+l.length<=2000/\In64 p.ct.1
structure bV(p p':FP)(l l':Sp.Bs):Prop where
 pre:∃ex,p'.ns=p.ns++ex
 nl:p'.ns.length+2*l'.length<=p.ns.length+2*l.length
 ql:p'.qs.length+l'.length<=p.qs.length+l.length
 pt:In64 p.ct.1->In64 p'.ct.1
theorem bV.len(h:bV p p' l l'):p.ns.length<=p'.ns.length:=by obtain⟨ex,e⟩:=h.pre;rw[e];simp
theorem bV.at(h:bV p p' l l')(hi:i<p.ns.length):p'.ns[i]?=p.ns[i]?:=by obtain⟨ex,e⟩:=h.pre;rw[e,List.getElem?_append_left hi]
theorem bV.trans(h:bV p p1 l l1)(k:bV p1 p2 l1 l2):bV p p2 l l2:=by
 obtain⟨e1,h1⟩:=h.pre;obtain⟨e2,h2⟩:=k.pre;refine⟨⟨e1++e2,by rw[h2,h1,Ô]⟩,?_,?_,λq=>k.pt (h.pt q)⟩
 .have:=h.nl;have:=k.nl;omega
 .have:=h.ql;have:=k.ql;omega
theorem bV.Gf(h:bV p p' l l')(k:fu p l):fu p' l':=by have:=h.nl;have:=h.ql;obtain⟨k1,k2,k3⟩:=k;exact⟨À,À,h.pt k3⟩
theorem bV.z8(h:l'.length<=l.length):bV p p l l':=⟨⟨[],Ä⟩,À,À,id⟩
theorem bV.node(h:bV p p' l l')(n:aK)(v:Value)(hs:p'.ns.length+1+2*l'.length<=p.ns.length+2*l.length):bV p {p' with ns:=p'.ns++[n],nv:=v} l l':=by obtain⟨ex,e⟩:=h.pre;exact⟨⟨ex++[n],by show p'.ns++[n]=_;rw[e,Ô]⟩,by simp;omega,h.ql,h.pt⟩
def dD(p p':FP)(l:Sp.Bs):Prop:=(∃ex,p'.ns=p.ns++ex)/\p'.ns.length<=p.ns.length+2*l.length+2
theorem dD.refl(p:FP)(l:Sp.Bs):dD p p l:=⟨⟨[],Ä⟩,À⟩
theorem dD.made(h:bV p p1 l l1)(k:dD p1 p2 l1):dD p p2 l:=by obtain⟨e1,h1⟩:=h.pre;obtain⟨⟨e2,h2⟩,h3⟩:=k;have:=h.nl;exact⟨⟨e1++e2,by rw[h2,h1,Ô]⟩,À⟩
theorem dD.node(h:dD p p' l1)(hl:l1.length<l.length)(n:aK)(v:Value):dD p {p' with ns:=p'.ns++[n],nv:=v} l:=by obtain⟨⟨ex,e⟩,h2⟩:=h;exact⟨⟨ex++[n],by show p'.ns++[n]=_;rw[e,Ô]⟩,by simp;omega⟩
theorem dD.tD(h:bV p p' l l'):dD p p' l:=⟨h.pre,by have:=h.nl;omega⟩
theorem dD.len(h:dD p p' l):p.ns.length<=p'.ns.length:=by obtain⟨⟨ex,e⟩,_⟩:=h;rw[e];simp
theorem dD.more(h:dD p p' l1)(hl:l1.length<=l.length):dD p p' l:=⟨h.1,by have:=h.2;omega⟩
def iQ(p p':FP)(l:Sp.Bs)(k:Int):Sp.R Sm->Prop
 |.ok (x,l')=>bV p p' l l'/\(∃j:Nat,k=(j:Int)/\j<p'.ns.length/\rF p'.ns p.ns.length x j p.ct p'.ct)/\p'.qs=p.qs++fR x
 |.error _=>dD p p' l
def jA(base b pb:Nat)(s:ByteArray)(o:Nat)(p:FP)(l:Sp.Bs)(w:Wd)(r:Sp.R Sm)(e:Ending)(w':Wd):Prop:=
 ∃(k:Int) (p':FP),e=υ (I O k)/\FX base b pb s (left r) (o:Int) p' w'/\FK b pb p p' w w'/\iQ p p' l k r
def mH(f:FuncId)(base b pb:Nat)(s:ByteArray)(o n:Nat)(u:Sp.Bs->Sp.R Sm):Prop:=
 ∀(l:Sp.Bs) (p:FP) (w:Wd),l.length<n->FR base b pb s l (o:Int) p w->fu p l->Calls prog f #[ρ (Y ⟨b,0,M⟩)] w (jA base b pb s o p l w (u l))
def A9(f:FuncId)(base b pb:Nat)(s:ByteArray)(v:Int):Prop:=
 ∀(er:Nat×Nat) (p:FP) (w:Wd),FE base b pb s er p w->Calls prog f #[ρ (Y ⟨b,0,M⟩)] w λe w'=>e=υ (I O v)/\w'=w
theorem S1{w:Wd}{first:Int}(h:Bk w pb (cQ p first) 110)(v:Value)(qs:List Int):(w.setCell ⟨pb,4,M⟩ v).heap[pb]?=Y (L (cQ {p with qs:=qs,qv:=v} first) 110):=by rw[ai h 4 v];rfl
theorem Yv:(prog.info? 3).map (λi=>(i.zero,i.size,i.bytes))=Y (Y (I O 0),1,8):=Ã
theorem Ek{base b:Nat}{s:ByteArray}{r:Except (Nat × Nat) Sp.Bs}{oo:Int}{w w1:Wd}{o:Obj}(h:FX base b pb s r oo p w)(hn:p.qs.length+1<=1000000)(n:Int)
  (kO:w1.ownsRow base 3 1 (Z (Y ⟨gg,0,M⟩) (p.qs.length+1) cap) (p.qs.length+1) ((p.qs.map λn=>Value.int O n)++[I O n])) (hg:(w.alloc o).drew.grownBy w1 p.qv.ownBlock) (BP:p.qv.ownBlock=Y gg∨gg=w.heap.size+1):
  FX base b pb s r oo {p with qs:=p.qs++[n],qv:=Z (Y ⟨gg,0,M⟩) (p.qs.length+1) cap} (w1.setCell ⟨pb,4,M⟩ (Z (Y ⟨gg,0,M⟩) (p.qs.length+1) cap))/\FK b pb p {p with qs:=p.qs++[n],qv:=Z (Y ⟨gg,0,M⟩) (p.qs.length+1) cap} w (w1.setCell ⟨pb,4,M⟩ (Z (Y ⟨gg,0,M⟩) (p.qs.length+1) cap)):=by
 have hp:=h.prog;have df:=ah hp.aV;obtain⟨i,a,t,o',er,hb⟩:=h.OS;have iD:∀k,k<w.heap.size->p.qv.ownBlock≠Y k->w1.heap[k]?=w.heap[k]?:=λk hk hn=>by rw[hg.block k (by show k<(w.alloc o).heap.size;simp;omega) (λe=>hn e.symm)];exact Below.heap_alloc _ _ _ hk
 have ea:w.heap.size<=w1.heap.size:=by
  have:=hg.size;have h2:(w.alloc o).drew.heap.size=w.heap.size+1:=by show(w.alloc o).heap.size=_;simp
  omega
 have Ng:=hp.dX hp.aV mv;have eQ:=hp.dX hb lM;have tV:w1.heap[pb]?=Y (L (cQ p 0) 110):=by rw[iD pb df Ng.2];exact hp.aV
 have hpn:mG base pb {p with qs:=p.qs++[n],qv:=Z (Y ⟨gg,0,M⟩) (p.qs.length+1) cap} (w1.setCell ⟨pb,4,M⟩ (Z (Y ⟨gg,0,M⟩) (p.qs.length+1) cap)):=by
  refine⟨S1 tV _ _,?_,?_,hp.ge,hp.n5,by simp;omega⟩
  .refine aY hp.kQ (λg rf=>?_)
   have xQ:=(bk hp.kQ g rf).2.1;rw[Æ _ _ _ _ (λe=>Ng.1 (by rw[<-show g=pb from e];exact rf))];exact iD g xQ (λe=>hp.sf g rf e)
  .show World.ownsRow _ base 3 1 _ (p.qs++[n]).length ((p.qs++[n]).map _)
   rw[List.map_append,List.length_append];exact aY kO (λg rf=>Æ _ _ _ _ (λe=>by obtain⟨_,_,c,hc⟩:=bk kO g rf;have e':g=pb:=e;rw[e',tV]at hc;cases hc))
 refine⟨h.move ?_ hpn,hg.os,hg.tape,hg.output,by simp[World.setCell];omega,λ_ e=>.inl e,?_,?_⟩
 .rw[Æ _ _ _ _ h.ne]
  exact iD b (ah hb) eQ.2
 .intro g rf
  have e:gg=g:=by simpa[Value.ownBlock] using rf
  subst e
  rcases BP with h1|h1
  .exact .inl h1
  .exact .inr À
 .intro k hk _ h2 _ h4
  rw[Æ _ _ _ _ h2];exact iD k hk h4
theorem zl(base b pb:Nat)(s:ByteArray):A9 204 base b pb s 0:=by
 intro er p w h;obtain⟨i,l0,o,hb,Ym⟩:=h.aV;have c6:=cell_of hb 6 (v:=I O er.1) rfl;have c3:=cell_of hb 3 (v:=χ ⟨(Sp.tok l0).toArray⟩) rfl;have hz:((er.1:Int)==0)=false:=by have:=h.nz;simp;omega
 have ff:¬((er.1:Int)=0):=by have:=h.nz;omega
 have ea:(⟨(Sp.tok l0).toArray⟩:ByteArray).size<=400:=by rw[oe,ef];have:=fY l0;omega
 generalize (er.1:Int)=q at*;clear h hb;go_enter func204,ntmps204;go_wp2_with fail;refine(gS _ ea _).mono ?_;rintro e w1⟨rfl,rfl⟩;go_wp2_with fail;refine(dw l0 Ym _).mono ?_;rintro e w1⟨rfl,rfl⟩;go_wp2_with fail;go_ret;exact⟨rfl,rfl⟩
end
end
section
section
variable{base b pb o:Nat}
variable{s:ByteArray}
variable{l:Sp.Bs}
variable{p:FP}
variable{w w':Wd}
theorem FR.asks{o:Int}(h:FR base b pb s l o p w):w.cell? ⟨b,6,M⟩=Y (I O 0)/\w.cell? ⟨b,3,M⟩=Y (χ ⟨(Sp.tok l).toArray⟩)/\(⟨(Sp.tok l).toArray⟩:ByteArray).size<=400/\l.length<=400:=by have h1:=h.len;have h2:=h.sz;have h3:=fY l;exact⟨cell_of h.aV 6 rfl,cell_of h.aV 3 rfl,by rw[oe,ef];omega,À⟩
theorem rV(h:Sp.tok l=[45]):aC l≠3/\aC l≠2:=by
 constructor
 .intro k
  have:=(dA k).2 45 (by rw[h];simp);simp[bC]at this
 .intro k
  cases l with
  |nil=>simp[Sp.tok]at h
  |cons d q=>
   have e:d=45:=by
    unfold Sp.tok at h;cases hn:bh (d::q) with
    |zero=>rw[hn]at h;simp at h
    |succ m=>rw[hn,á]at h;exact(List.cons.inj h).1
   subst e;rw[cj]at k;simp[Sp.isLet,bC]at k;split at k<;>omega
theorem oA(h:Sp.tok l=[40]):aC l≠3/\aC l≠2:=by
 constructor
 .intro k
  have:=(dA k).2 40 (by rw[h];simp);simp[bC]at this
 .intro k
  cases l with
  |nil=>simp[Sp.tok]at h
  |cons d q=>
   have e:d=40:=by
    unfold Sp.tok at h;cases hn:bh (d::q) with
    |zero=>rw[hn]at h;simp at h
    |succ m=>rw[hn,á]at h;exact(List.cons.inj h).1
   subst e;rw[cj]at k;simp[Sp.isLet,bC]at k;split at k<;>omega
theorem zw{f:FuncId}{o n:Nat}{u:Sp.Bs->Sp.R Sm}{v:Int}{r:Except (Nat × Nat) Sp.Bs}(hr:∀l,r=.ok l->mH f base b pb s o n u/\l.length<n/\fu p l)(hi:A9 f base b pb s v)(h:FX base b pb s r (o:Int) p w) :
  Calls prog f #[ρ (Y ⟨b,0,M⟩)] w λe w'=>∃(k:Int) (p':FP),e=υ (I O k)/\FX base b pb s (r.bind λl=>left (u l)) (o:Int) p' w'/\FK b pb p p' w w'/\(∀l,r=.ok l->iQ p p' l k (u l))/\(∀e,r=.error e->p'=p):=by
 cases r with
 |ok l=>obtain⟨h1,h2,h3⟩:=hr l rfl;refine(h1 l p w h2 h h3).mono ?_;rintro e w'⟨k,p',rfl,h1,k1,g1⟩;exact⟨k,p',rfl,h1,k1,λl' hl=>by cases hl;exact g1,λ_ hl=>nomatch hl⟩
 |error e=>refine(hi e p w h).mono ?_;rintro e' w'⟨rfl,rfl⟩;exact⟨v,p,rfl,h,FK.refl _ _ _ _,(λ_ hl=>nomatch hl),λ_ _=>rfl⟩
theorem Pp{u:Sp.Bs->Sp.R Sm}{r:Except (Nat×Nat) Sp.Bs}{p':FP}{k:Int}(hl:fu p l)(hr:∀l1,r=.ok l1->l1.length<=l.length)(g:∀l1,r=.ok l1->iQ p p' l1 k (u l1))(e:∀e,r=.error e->p'=p):p'.ns.length+1<=1000000:=by
 obtain⟨h1,h2,_⟩:=hl;cases r with
 |error er=>rw[e er rfl];omega
 |ok l1=>
  have g1:=g l1 rfl;have:=hr l1 rfl;cases hu:u l1 with
  |error er=>rw[hu]at g1;have:=(show dD p p' l1 from g1).2;omega
  |ok xl=>rw[hu]at g1;have:=g1.1.nl;omega
theorem Si{u:Sp.Bs->Sp.R Sm}{p1:FP}{k:Int}{n:aK}{v:Value}(ht:Sp.tok l=[45])(hn:n.kind=3)(ha:n.a=k)
  (g:∀l1,Sp.enter [45] o l=.ok l1->iQ p p1 l1 k (u l1)) (he:∀e,Sp.enter [45] o l=.error e->p1=p)
  (h5:FX base b pb s ((Sp.enter [45] o l).bind λl=>left (u l)) (o:Int) {p1 with ns:=p1.ns++[n],nv:=v} w') (k5:FK b pb p {p1 with ns:=p1.ns++[n],nv:=v} w w'):
  jA base b pb s o p l w (lP Tr u o l) (υ (I O (p1.ns.length:Nat))) w':=by
 have fD:=aJ ht Ä;refine⟨_,_,rfl,?_,k5,?_⟩
 .cases hq:Sp.enter [45] o l with
  |error e=>rw[hq]at h5;unfold lP;rw[hq];exact h5
  |ok l1=>
   rw[hq]at h5;unfold lP;rw[hq];simp only[Except.bind]at h5⊢;cases hu:u l1 with
   |error e=>rw[hu]at h5;exact h5
   |ok xl=>rw[hu]at h5;exact h5
 .cases hq:Sp.enter [45] o l with
  |error e=>unfold lP;rw[hq];show dD p _ l;rw[he e hq];exact⟨⟨[n],rfl⟩,by simp;omega⟩
  |ok l1=>
   obtain⟨_,_,xS⟩:=cI hq;have g1:=g l1 hq;unfold lP;rw[hq];simp only;cases hu:u l1 with
   |error e=>rw[hu]at g1;exact dD.node (l1:=l1) g1 (by rw[xS];omega) n v
   |ok xl=>obtain⟨x,l2⟩:=xl;rw[hu]at g1;obtain⟨m1,⟨j,AF,Ku,Gn⟩,zU⟩:=g1;have hm:bV p p1 l l2:=(bV.z8 (by rw[xS];omega)).trans m1;refine⟨hm.node n v (by have:=m1.nl;rw[xS]at this;omega),⟨p1.ns.length,rfl,Ä,?_⟩,zU⟩;refine⟨n,j,Ä,hn,by rw[ha,AF],Ku,Gn.mono È (λi _ hi=>?_)⟩;show(p1.ns++[n])[i]?=_;rw[List.getElem?_append_left À]
theorem EM(base b pb:Nat)(s:ByteArray)(o n:Nat)(ho:o<=12)(hr:o<12->mH 204 base b pb s (o+1) n (bp Tr n (o+1)))
  (l:Sp.Bs) (p:FP) (w:Wd) (hl:l.length<n+1) (h:FR base b pb s l (o:Int) p w) (hlim:fu p l) (ht:Sp.tok l=[45]):
  Calls prog 204 #[ρ (Y ⟨b,0,M⟩)] w (jA base b pb s o p l w (bp Tr (n+1) o l)):=by
 obtain⟨c6,c3,ea,xP⟩:=h.asks;have hE:Hid (bp Tr (n+1) o l=lP Tr (bp Tr n (o+1)) o l):=by unfold Hid;rw[gu,Â (rV ht).1,Â (rV ht).2,Á ht]
 have HN:Hid (∀w,Calls prog 124 #[χ ⟨[45].toArray⟩] w λe w'=>e=υ (U (aS l).isSome)/\w'=w):=by rw[<-ht];exact dw l xP
 have fD:=aJ ht Ä;rw[ht]at c3 ea;have Tl:Hid (∀l1,Sp.enter [45] o l=.ok l1->l1=Sp.next l/\o<12):=λl1 e=>by obtain⟨_,h2,h3⟩:=cI e;exact⟨h3,À⟩
 have HR:=hid hr;have HT:=hid ht;clear hr ht;go_enter func204,ntmps204;go_wp2_with fail;refine(gS _ ea _).mono ?_;rintro e w1⟨rfl,rfl⟩;go_wp2_with fail;refine(HN.out _).mono ?_;rintro e w1⟨rfl,rfl⟩;go_wp2_with fail;refine(CT ho h [45]).mono ?_;rintro e w2⟨rfl,h2,k2⟩;go_wp2_with fail;refine(zw (o:=o+1) (n:=n) (u:=bp Tr n (o+1)) (λl1 e1=>by obtain⟨e2,e3⟩:=Tl.out l1 e1;refine⟨HR.out e3,by rw[e2];omega,?_⟩;rw[e2];exact(bV.z8 À).Gf hlim) (zl base b pb s) h2).mono ?_;rintro e w3⟨k,p1,rfl,h3,k3,g3,e3⟩;obtain⟨q,c5,f5,hq,hs⟩:=h3.nm 0;obtain⟨h4,k4⟩:=hs (RowKit.wrap64 (q-1)) (o:Int) (λl e=>by rw[hq l e,IntWalk.wrap64_in _ À];omega);have jm:=Pp (l:=l) hlim (λl1 e1=>by rw[(Tl.out l1 e1).1];omega) g3 e3;have H4:=hid (And.intro h4 k4);have G3:=hid (And.intro g3 e3);clear hs hq h4 k4 g3 e3;go_wp2_with fail;refine(eU H4.1 {kind:=3,a:=k} jm).mono ?_;rintro e w5⟨rfl,v,h5,k5⟩;go_wp2_with fail;go_ret;rw[hE.out];exact Si HT.out rfl rfl G3.1 G3.2 h5 ((k2.trans k3).trans (H4.2.trans k5))
end
end
section
theorem vQ(base b pb:Nat)(s:ByteArray)(o n:Nat)
  (l:Sp.Bs) (p:FP) (w:Wd) (h:FR base b pb s l (o:Int) p w) (WQ:Sp.tok l≠[45]) (WL:Sp.tok l≠[40]) (hf:ph (Sp.tok l)=-1) (hv:aS l=M) (hE:Hid (bp Tr (n+1) o l=.error (2,l.length))):
  Calls prog 204 #[ρ (Y ⟨b,0,M⟩)] w (jA base b pb s o p l w (bp Tr (n+1) o l)):=by
 obtain⟨c6,c3,ea,xP⟩:=h.asks;have HN:Hid (∀w,Calls prog 124 #[χ ⟨(Sp.tok l).toArray⟩] w λe w'=>e=υ (U false)/\w'=w):=by have:=dw l xP;rw[hv]at this;exact this
 have HV:Hid (∀w,Calls prog 223 #[χ ⟨(Sp.tok l).toArray⟩] w λe w'=>e=υ (I O (-1))/\w'=w):=by intro w;have:=gS _ ea w;rw[show(⟨(Sp.tok l).toArray⟩:ByteArray).data.toList=Sp.tok l from rfl,hf]at this;exact this
 have nd1:((⟨(Sp.tok l).toArray⟩:ByteArray).toList==[45])=false:=by rw[ByteArray.toList_eq];simpa using WQ
 have nd2:((⟨(Sp.tok l).toArray⟩:ByteArray).toList==[40])=false:=by rw[ByteArray.toList_eq];simpa using WL
 clear ea WQ WL hf hv;generalize (⟨(Sp.tok l).toArray⟩:ByteArray)=t at*;go_enter func204,ntmps204;go_wp2_with fail;refine(HV.out _).mono ?_;rintro e w1⟨rfl,rfl⟩;go_wp2_with fail;refine(HN.out _).mono ?_;rintro e w1⟨rfl,rfl⟩;go_wp2_with fail;refine(pP h 2 É 2 rfl).mono ?_;rintro e w2⟨rfl,h2,k2⟩;go_wp2_with fail;go_ret;rw[hE.out];exact⟨_,p,rfl,h2,k2,dD.refl _ _⟩
attribute [local go_sem ↓] Go.wp_at_zero Go.wp_at_succ
theorem CJ(base b pb:Nat)(s:ByteArray)(o n:Nat)
  (l:Sp.Bs) (p:FP) (w:Wd) (h:FR base b pb s l (o:Int) p w) (hlim:fu p l) (hk:aC l=3) (v:Nat) (hv:gh (Sp.tok l)=Y v):
  Calls prog 204 #[ρ (Y ⟨b,0,M⟩)] w (jA base b pb s o p l w (bp Tr (n+1) o l)):=by
 obtain⟨i0,hi,Kv,kh,ff⟩:=info_parts Yv;obtain⟨c6,c3,ea,xP⟩:=h.asks;have hE:Hid (bp Tr (n+1) o l=.ok (.num v,Sp.next l)):=by unfold Hid;rw[gu,Á hk,hv];rfl
 have hf:ph (Sp.tok l)=(v:Int):=by rw[vV hk,hv]
 have hvn:aS l=M:=by
  cases hq:aS l with
  |none=>rfl
  |some q=>have:=fL hq;omega
 have hv3:v<=32767:=by obtain⟨_,h1,h2⟩:=qd hv;omega
 have HN:Hid (∀w,Calls prog 124 #[χ ⟨(Sp.tok l).toArray⟩] w λe w'=>e=υ (U false)/\w'=w):=by have:=dw l xP;rw[hvn]at this;exact this
 have HV:Hid (∀w,Calls prog 223 #[χ ⟨(Sp.tok l).toArray⟩] w λe w'=>e=υ (I O (v:Int))/\w'=w):=by intro w;have:=gS _ ea w;rw[show(⟨(Sp.tok l).toArray⟩:ByteArray).data.toList=Sp.tok l from rfl,hf]at this;exact this
 have nd1:((⟨(Sp.tok l).toArray⟩:ByteArray).toList==[45])=false:=by rw[ByteArray.toList_eq];simp;intro e;exact(rV e).1 hk
 have nd2:((⟨(Sp.tok l).toArray⟩:ByteArray).toList==[40])=false:=by rw[ByteArray.toList_eq];simp;intro e;exact(oA e).1 hk
 have fD:(Sp.next l).length<l.length:=gl (dj (.inr (.inl hk)));clear ea hf hv hvn hk;generalize (⟨(Sp.tok l).toArray⟩:ByteArray)=t at*;go_enter func204,ntmps204;go_wp2_with fail;refine(HV.out _).mono ?_;rintro e w1⟨rfl,rfl⟩;go_wp2_with fail;refine(HN.out _).mono ?_;rintro e w1⟨rfl,rfl⟩;go_wp2_with fail;refine(ek h).mono ?_;rintro e w2⟨rfl,h2,k2⟩;have hp:=h2.prog;have d4:=cell_of h2.aV 4 (v:=ρ (Y ⟨pb,0,M⟩)) rfl;have d0:=cell_of hp.aV 4 (v:=p.qv) rfl;have f0:=ay hp.aV 4;have I1:pb<w2.heap.size:=ah hp.aV;have zX:b<w2.heap.size:=ah h2.aV;have ag:p.qv.ownBlock≠Y pb:=(hp.dX hp.aV mv).2;have ab:p.qv.ownBlock≠Y b:=(hp.dX h2.aV lM).2;have hox:=hp.lU;have nN:=hp.ge;have zU:p.qs.length+1<=2000:=by have:=hlim.2.1;omega
 have XO:p.qs.length+1<=maxLen:=by unfold maxLen;omega
 have XW:(p.qs.length+1)*8<=140737488355328:=À;clear hp;go_wp2_with fail
 go_region_law
  ((refine step_append_lies _ Ê _ _ _ Ê base 3 i0 _ 1 8 underlying25 hi Kv kh ff rfl À p.qv p.qs.length (p.qs.map λn=>Value.int O n) Ê ((hox.alloc _).drew)
     ⟨w2.heap.size,0,M⟩ 1 1 [I O (v:Int)] Ê Ê (World.news_of_block (cs:=#[I O (v:Int)]) (t:=3) (fr:=(0,0)) (heap_alloc_new w2 _)) (by simp[Value.oneCell'])
     À XO XW (by simp;omega) (w2.heap.size+1) Ä ?_;intro gg cap w3 tU qp BP df;have f1:w3.frozen? ⟨pb,4,M⟩=false:=(by rw[qp.frozen_far _ (by simp;omega) (Ne.symm ag)];exact sY I1 f0);have e1:w3.cell? ⟨pb,4,M⟩=Y p.qv:=(by rw[qp.cell_far _ (by simp;omega) (Ne.symm ag)];exact ox I1 d0);have e4:w3.cell? ⟨b,4,M⟩=Y (ρ (Y ⟨pb,0,M⟩)):=(by rw[qp.cell_far _ (by simp;omega) (Ne.symm ab)];exact ox zX d4)))
 all_goals
  have HF:=Ek (r:=.ok (Sp.next l)) h2 À (v:Int) tU qp BP;have HH:=hid HF;clear HF tU qp BP df;go_wp2_with fail;refine(eU HH.1 {kind:=1,n:=(v:Int)} (by have:=hlim.1;show p.ns.length+1<=_;omega)).mono ?_;rintro e w5⟨rfl,v5,h5,k5⟩;go_wp2_with fail;go_ret;rw[hE.out];refine⟨_,_,rfl,h5,(k2.trans HH.2).trans k5,⟨⟨_,rfl⟩,by simp;omega,by simp;omega,id⟩,⟨p.ns.length,rfl,Ä,?_⟩,rfl⟩;exact⟨_,by simp;rfl,rfl,rfl,hv3,È,rfl⟩
end
section
def Bj(base pb:Nat)(t:Bl)(w:Wd):Prop:=
 ∃(p:FP) (first:Int) (ct:Ct),w.heap[pb]?=Y (L (cQ p first) 110)/\w.ownsRow base 200 10 p.nv p.ns.length (gL p.ns)/\w.ownsRow base 3 1 p.qv p.qs.length (p.qs.map λn=>I O n) /\
  p.ns.length<=2000/\p.qs.length<=2000/\jZ p.ns 0 p.ns.length t first (0,0) ct/\p.ct=Sp.aD ct/\In64 ct.1/\p.qs=i6 t
def iE(s:ByteArray)(w:Wd)(e:Ending)(w':Wd):Prop:=ω w w'/\match Sp.tree s.data.toList with
 |.ok t=>∃pb,e=υ (φ #[ρ (Y ⟨pb,0,M⟩),I O 0,I O 0])/\w.heap.size<=pb/\Bj w.heap.size pb t w'
 |.error er=>e=υ (φ #[ρ M,I O er.1,I O er.2])
def DD:FP:={ns:=[],ct:=(0,0),qs:=[],nv:=Z M 0 0,qv:=Z M 0 0}
theorem PX{w:Wd}{pb:Nat}{p:FP}{first:Int}(h:Bk w pb (cQ p first) 110)(n:Int):(w.setCell ⟨pb,1,M⟩ (I O n)).heap[pb]?=Y (L (cQ p n) 110):=by rw[ai h 1 (I O n)];rfl
theorem D1(w:Wd)(s:ByteArray)(hs:s.size<=400){w1 w3:Wd}(hw1:w1=(w.alloc (L (cQ DD 0) 110)).alloc (L (cu s 0 0 ByteArray.empty w.heap.size 0 0) 198))(hx:oy (w.heap.size+1) w1 w3)
  (hb:w3.heap[w.heap.size+1]?=Y (L (cu s ((s.size-(Sp.skip s.data.toList).length+bh (Sp.skip s.data.toList):Nat):Int) ((s.size-(Sp.skip s.data.toList).length:Nat):Int) ⟨(Sp.tok (Sp.skip s.data.toList)).toArray⟩ w.heap.size 0 0) 198)):
  FR w.heap.size (w.heap.size+1) w.heap.size s (Sp.skip s.data.toList) 0 DD w3/\ω w w3:=by
 have h1:w1.heap.size=w.heap.size+2:=by subst hw1;simp
 have hp:w1.heap[w.heap.size]?=Y (L (cQ DD 0) 110):=by subst hw1;rw[Below.heap_alloc _ _ _ Ä];exact heap_alloc_new _ _
 have sL:ω w w1:=by subst hw1;exact((Å).alloc È _).alloc Ä _
 refine⟨⟨hb,⟨?_,World.ownsRow_nil _ _ _ _,World.ownsRow_nil _ _ _ _,È,by simp[DD],by simp[DD]⟩,mb _,hs,À,À⟩,?_⟩
 .rw[hx.block _ À À];exact hp
 .refine⟨hx.os.trans sL.os,hx.tape.trans sL.tape,hx.output.trans sL.output,by have:=hx.size;have:=sL.size;omega,λk hk=>?_⟩
  rw[hx.block k À À];exact sL.block k hk
end
section
section
variable{j c base sz n i g cap b pb:Nat}
variable{d d':aK}
variable{u:Value}
variable{w:Wd}
variable{xs:List Value}
variable{s:ByteArray}
variable{p:FP}
theorem ju:∀(ns:List aK) (j c:Nat),c<10->(gL ns)[10*j+c]?=(ns[j]?).bind λd=>(cA d)[c]?
 |[],j,c,_=>by simp[gL]
 |d::ns,0,c,hc=>by show(cA d++gL ns)[10*0+c]?=_;rw[List.getElem?_append_left (by show _<10;omega)];simp
 |d::ns,j+1,c,hc=>by show(cA d++gL ns)[10*(j+1)+c]?=_;rw[List.getElem?_append_right (by show 10<=_;omega)];rw[show 10*(j+1)+c-(cA d).length=10*j+c by show _-10=_;omega,ju ns j c hc];simp
theorem GN(ns:List aK):(gL ns).length=ns.length*10:=by
 induction ns with
 |nil=>rfl
 |cons d ns ih=>show(cA d++gL ns).length=_;rw[List.length_append,ih];show 10+_=_;simp;omega
theorem Hz{ns:List aK}(hd:ns[j]?=Y d)(hc:c<10)(hu:(cA d).set c u=cA d'):(gL ns).set (10*j+c) u=gL (ns.set j d'):=by
 apply List.ext_getElem?;intro m;have em:m=10*(m / 10)+m%10:=À;have hm:m%10<10:=Nat.mod_lt _ À;have hj:j<ns.length:=(Í.1 hd).1;rw[em,ju _ _ _ hm,List.getElem?_set,List.getElem?_set];by_cases e:j=m / 10
 .subst e
  rw[Á rfl,Á hj];have h1:=Ë (λl:List Value=>l[m%10]?) hu;simp only[List.getElem?_set]at h1;by_cases ec:c=m%10
  .subst ec
   rw[Á rfl,Á (by rw[GN];omega)];rw[Á rfl,Á (by show _<10;omega)]at h1;simpa using h1
  .rw[Â À,ju _ _ _ hm,hd]
   rw[Â ec]at h1;simpa using h1
 .rw[Â À,Â e,ju _ _ _ hm]
theorem FL{e:TypeId}(h:w.ownsRow base e sz (Z (Y ⟨g,0,M⟩) n cap) n xs)(u:Value)(_hi:i<n*sz):(w.setCell ⟨g,i,M⟩ u).ownsRow base e sz (Z (Y ⟨g,0,M⟩) n cap) n (xs.set i u):=by
 obtain⟨h1,h2⟩:=h;refine⟨by simpa using h1,.inr ?_⟩
 rcases h2 with⟨h2,_⟩|⟨g',abl,cur,hv,hg,hb,h3,h4,h5,h6⟩
 .cases h2
 .cases hv
  refine⟨g,cap,cur.setIfInBounds i u,rfl,hg,ai hb i u,h3,h4,by simpa using h5,?_⟩;rw[Array.toList_setIfInBounds,List.take_set,h6]
theorem og{e:TypeId}(h:w.ownsRow base e sz (Z (Y ⟨g,0,M⟩) n cap) n xs)(hu:xs[i]?=Y u):w.cell? ⟨g,i,M⟩=Y u/\w.frozen? ⟨g,i,M⟩=false:=by
 obtain⟨h1,h2⟩:=h
 rcases h2 with⟨h2,_⟩|⟨g',abl,cur,hv,hg,hb,h3,h4,h5,h6⟩
 .cases h2
 .cases hv
  refine⟨cell_of hb i ?_,ay hb i⟩;rw[<-h6]at hu;have df:=(Í.1 hu).1;have:i<n*sz:=by simp at df;omega
  rw[List.getElem?_take_of_lt this]at hu;simpa using hu
theorem FX.yU{r:Except (Nat × Nat) Sp.Bs}{o:Int}(h:FX base b pb s r o p w)(hv:p.nv=Z (Y ⟨g,0,M⟩) p.ns.length cap)(hd:p.ns[j]?=Y d)(hc:c<10)(hu:(cA d).set c u=cA d') :
  FX base b pb s r o {p with ns:=p.ns.set j d'} (w.setCell ⟨g,j*10+c,M⟩ u)/\FK b pb p {p with ns:=p.ns.set j d'} w (w.setCell ⟨g,j*10+c,M⟩ u):=by
 have hp:=h.prog;obtain⟨i,a,t,o',er,hb⟩:=h.OS;have hj:j<p.ns.length:=(Í.1 hd).1;have hog:p.nv.ownBlock=Y g:=by rw[hv];rfl
 have Ng:=hp.dX hp.aV mv;have eQ:=hp.dX hb lM;have h1:pb≠g:=λe=>Ng.1 (by rw[e];exact hog)
 have h2:b≠g:=λe=>eQ.1 (by rw[e];exact hog)
 refine⟨h.move (Æ _ _ _ _ h2) ⟨?_,?_,?_,hp.ge,by simpa using hp.n5,hp.q5⟩,rfl,rfl,rfl,by simp[World.setCell],λ_ e=>.inl e,λ_ e=>.inl e,?_⟩
 .rw[Æ _ _ _ _ h1];exact hp.aV
 .show World.ownsRow _ base 200 10 p.nv (p.ns.set j d').length (gL (p.ns.set j d'))
  have hr:=hp.kQ;rw[hv]at hr⊢;rw[<-Hz hd hc hu,List.length_set,Nat.mul_comm 10 j];exact FL hr u À
 .exact aY hp.lU (λq hq=>Æ _ _ _ _ (λe=>hp.sf g hog (by rw[<-show q=g from e];exact hq)))
 .intro k hk _ _ h3 _
  exact Æ _ _ _ _ (λe=>h3 (by rw[show k=g from e];exact hog))
theorem mG.slice(h:mG base pb p w)(hn:0<p.ns.length):∃g cap,p.nv=Z (Y ⟨g,0,M⟩) p.ns.length cap/\p.ns.length<=cap/\cap<=maxLen:=by
 rcases h.kQ.2 with⟨_,h2⟩|⟨g,cap,cur,hv,_,_,h3,h4,_⟩
 .omega
 .exact⟨g,cap,hv,h3,h4⟩
theorem mG.cells(h:mG base pb p w)(hv:p.nv=Z (Y ⟨g,0,M⟩) p.ns.length cap)(hd:p.ns[j]?=Y d)(hc:c<10)(hu:(cA d)[c]?=Y u):w.cell? ⟨g,j*10+c,M⟩=Y u/\w.frozen? ⟨g,j*10+c,M⟩=false:=by have hr:=h.kQ;rw[hv]at hr;exact og hr (by rw[Nat.mul_comm j 10,ju _ _ _ hc,hd];exact hu)
theorem Fx{l:Sp.Bs}{o:Int}(h:FR base b pb s l o p w) :
  Calls prog 126 #[ρ (Y ⟨b,0,M⟩)] w λe w'=>∃k:Int,e=υ (I O k)/\FX base b pb s (left (dN l)) o p w'/\FK b pb p p w w'/\∀kk,aS l=Y kk->k=(kk:Int):=by
 obtain⟨c6,c3,ea,xP⟩:=h.asks;cases hv:aS l with
 |some kk=>
  obtain⟨c,ht,qq,F8,px,rfl⟩:=dY hv;have hE:Hid (dN l=.ok (c.toNat-97,Sp.next l)):=jC hv;have HN:Hid (∀w,Calls prog 124 #[χ ⟨[c].toArray⟩] w λe w'=>e=υ (U true)/\w'=w):=by have:=dw l xP;rw[ht,hv]at this;exact this
  obtain⟨t,et,jW,hx⟩:=pO c;rw[ht,<-et]at c3;rw[<-et]at HN;have h0:0<t.size:=À;have xy:(97:Int)<=(t[0].toNat:Int)/\(t[0].toNat:Int)<=104:=by rw[hx];omega
  have aW:Hid (((c.toNat-97:Nat):Int)=(t[0].toNat:Int)-97):=by unfold Hid;rw[hx];omega
  clear hx et ht hv qq ea;go_enter func126,ntmps126;go_wp2_with fail;refine(HN.out _).mono ?_;rintro e w1⟨rfl,rfl⟩;go_wp2_with fail;refine(ek h).mono ?_;rintro e w2⟨rfl,h2,k2⟩;go_wp2_with fail;go_ret;exact⟨_,rfl,by rw[hE.out];exact h2,k2,λkk e=>by cases e;rw[aW.out]⟩
 |none=>
  have hE:Hid (dN l=.error (2,l.length)):=lL hv;have HN:Hid (∀w,Calls prog 124 #[χ ⟨(Sp.tok l).toArray⟩] w λe w'=>e=υ (U false)/\w'=w):=by have:=dw l xP;rw[hv]at this;exact this
  clear hv ea;generalize (⟨(Sp.tok l).toArray⟩:ByteArray)=t at*;go_enter func126,ntmps126;go_wp2_with fail;refine(HN.out _).mono ?_;rintro e w1⟨rfl,rfl⟩;go_wp2_with fail;refine(pP h 2 É 2 rfl).mono ?_;rintro e w2⟨rfl,h2,k2⟩;go_wp2_with fail;go_ret;exact⟨0,rfl,by rw[hE.out];exact h2,k2,λkk e=>by cases e⟩
def cU(l:Sp.Bs):Bool:=(aS l).isSome||Sp.tok l==vW||Sp.tok l==ml||Sp.tok l==TO||Sp.tok l==pZ
theorem Av(l:Sp.Bs)(hl:l.length<=400)(w:Wd) :
  Calls prog 90 #[χ ⟨(Sp.tok l).toArray⟩] w λe w'=>e=υ (U (cU l))/\w'=w:=by
 have e:Hid (cU l=((aS l).isSome||(⟨(Sp.tok l).toArray⟩:ByteArray).toList==[114,101,97,100]||(⟨(Sp.tok l).toArray⟩:ByteArray).toList==[97,115,115,101,114,116]||(⟨(Sp.tok l).toArray⟩:ByteArray).toList==[105,102]||(⟨(Sp.tok l).toArray⟩:ByteArray).toList==[119,104,105,108,101])):=by unfold Hid;rw[ByteArray.toList_eq];rfl
 have HN:Hid (∀w,Calls prog 124 #[χ ⟨(Sp.tok l).toArray⟩] w λe w'=>e=υ (U (aS l).isSome)/\w'=w):=dw l hl;generalize (⟨(Sp.tok l).toArray⟩:ByteArray)=t at*;generalize (aS l).isSome=nb at*;go_enter func90,ntmps90;go_wp2_with fail;refine(HN.out _).mono ?_;rintro e w1⟨rfl,rfl⟩;cases nb
 all_goals
  go_wp2
  all_goals
   go_ret;exact⟨bt (by rw[e.out];simp_all),rfl⟩
end
end
end Go.Proofs.YtiopfihjmkfdmabGreatDoor
