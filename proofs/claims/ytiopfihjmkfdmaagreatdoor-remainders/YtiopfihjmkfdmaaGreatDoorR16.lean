import Derived.Test.YtiopfihjmkfdmaaGreatDoorR15
import Derived.Laws.BytesString
import Derived.Laws.Concat
namespace Go.Proofs.YtiopfihjmkfdmaaGreatDoor
open Option renaming some→Y,none→M
open Go.Obj renaming cells→L
open Go.Value renaming int→I,slice→Z,pointer→ρ,tuple→φ,string→χ,bool→U
open Go.IntKind renaming i64→O
open Go.Ending renaming returned→υ
open Go.Proofs.Tryz Sp
open Go.RowKit
set_option maxRecDepth 100000
set_option maxHeartbeats 16000000
section
section
variable{w w3 wd:Wd}
variable{s t:ByteArray}
theorem Cm(w:Wd)(s:ByteArray):((w.alloc (L (cM BP 0) 105)).alloc (L (cc s ((0:Nat):Int) 0 ⟨#[]⟩ w.heap.size 0 0) 174)).heap[w.heap.size+1]?=Y (L (cc s ((0:Nat):Int) 0 ⟨#[]⟩ w.heap.size 0 0) 174):=by have h:=heap_alloc_new (w.alloc (L (cM BP 0) 105)) (L (cc s ((0:Nat):Int) 0 ⟨#[]⟩ w.heap.size 0 0) 174);rw[show(w.alloc (L (cM BP 0) 105)).heap.size=w.heap.size+1 by simp]at h;exact h
theorem CG(w:Wd)(s:ByteArray)(hs:s.size<=400):Calls prog 65 #[ρ (Y ⟨w.heap.size+1,0,M⟩)] ((w.alloc (L #[Z M 0 0,I O 0,I O 0,I O 0,Z M 0 0] 105)).alloc (L #[χ s,I O 0,I O 0,χ ⟨#[]⟩,ρ (Y ⟨w.heap.size,0,M⟩),I O 0,I O 0] 174))
  fun e w'=>e=υ (φ #[])/\FR w.heap.size (w.heap.size+1) w.heap.size s (Sp.skip s.data.toList) 0 BP w'/\ω w w':=by
 refine(tZ (w:=(w.alloc (L (cM BP 0) 105)).alloc (L (cc s ((0:Nat):Int) 0 ⟨#[]⟩ w.heap.size 0 0) 174)) 0 (Cm w s) (Nat.zero_le _) hs).mono ?_;rintro e w3⟨rfl,hb,hx⟩;rw[List.drop_zero]at hb;exact⟨rfl,B8 w s hs rfl hx hb⟩
theorem JE{b pb:Nat}{i a o:Int}(hb:Bk w b (cc s i a t pb o 0) 174) :
  Calls prog 67 #[ρ (Y ⟨b,0,M⟩),I O 2] w fun e w'=>e=υ (φ #[])/\w'=w.setCell ⟨b,6,M⟩ (I O 2):=by
 have c6:=cell_of hb 6 (v:=I O 0) rfl;have f6:=aw hb 6;go_enter func67,ntmps67;go_wp2_with fail
 go_end0
 exact⟨rfl,rfl⟩
def Sg(w:Wd)(s:ByteArray)(fin:Sp.R (List (Bl->Bl)))(wd:Wd):Prop :=
 ∃(k:Int) (p':FP) (w4:Wd),FX w.heap.size (w.heap.size+1) w.heap.size s (left fin) ((0:Nat):Int) p' w4/\nO BP p' (Sp.skip s.data.toList) k fin/\ω w w4/\wd=w4.setCell ⟨w.heap.size,1,M⟩ (I O k)
theorem Zl(l:Sp.Bs)(h:l.length<=400):eI BP l:=by
 refine⟨?_,?_,?_⟩
 ·show 0+2*l.length<=2000;omega
 ·show 0+l.length<=2000;omega
 ·unfold In64;show(-9223372036854775808:Int)<=0/\(0:Int)<=9223372036854775807;omega
def Lg(s:ByteArray):Sp.R (List (Bl->Bl)):=cU Tr (bN Tr ((Sp.skip s.data.toList).length+1) 0) ((Sp.skip s.data.toList).length+1) [] (Sp.skip s.data.toList)
theorem EN(eG:FR w.heap.size (w.heap.size+1) w.heap.size s (Sp.skip s.data.toList) 0 BP w3) :
  Calls prog 66 #[ρ (Y ⟨w.heap.size+1,0,M⟩)] w3 (An w.heap.size (w.heap.size+1) w.heap.size s 0 BP (Sp.skip s.data.toList) w3 (Lg s)):=by
 have hl:=eG.len;have hs:=eG.sz;exact kY _ _ _ s 0 ((Sp.skip s.data.toList).length+1) _ (fun l f l1 e=>kH (A:=Tr) _ 0 l f l1 e) (ud _ _ _ s _ 0 (by omega)) _ BP w3 (by omega) eG (Zl _ (by omega)) _ (by omega)
theorem PW{fin:Sp.R (List (Bl->Bl))}(h:Sg w s fin wd):ω w wd/\wd.cell? ⟨w.heap.size+1,4,M⟩=Y (ρ (Y ⟨w.heap.size,0,M⟩))/\match left fin with
 | .error er=>er.1≠0/\wd.cell? ⟨w.heap.size+1,6,M⟩=Y (I O (er.1:Int))/\wd.cell? ⟨w.heap.size+1,2,M⟩=Y (I O ((s.size - er.2:Nat):Int))
 | .ok l1=>l1.length<=s.size/\(∃i t o,wd.heap[w.heap.size+1]?=Y (L (cc s i ((s.size - l1.length:Nat):Int) t w.heap.size o 0) 174)):=by
 obtain⟨k,p',w4,hx,hg,hb4,Qm⟩:=h;have mL:Below w.heap.size w4 wd:=by rw[Qm];exact(Below.refl _ _).setCell (p:=⟨w.heap.size,1,M⟩) (Nat.le_refl _) _
 have hk:wd.heap[w.heap.size+1]?=w4.heap[w.heap.size+1]?:=by rw[Qm];exact Below.heap_setCell _ _ _ _ (by simp)
 obtain⟨i,a,t,o',er,hb⟩:=hx.KZ;refine⟨hb4.trans mL,cell_of (by rw[hk];exact hb) 4 rfl,?_⟩
 revert hx
 cases left fin with
 | error e =>intro hx;obtain⟨i,l0,o,hb,_⟩:=(show FE _ _ _ s e p' w4 from hx).aT;exact⟨(show FE _ _ _ s e p' w4 from hx).nz,cell_of (by rw[hk];exact hb) 6 rfl,cell_of (by rw[hk];exact hb) 2 rfl⟩
 | ok l1 =>intro hx;have eG:FR _ _ _ s l1 _ p' w4:=hx;exact⟨eG.len,_,_,_,by rw[hk];exact eG.aT⟩
theorem No{fs:List (Bl->Bl)}(h:Sg w s (.ok (fs,[])) wd):∃pt:Int,wd.cell? ⟨w.heap.size,2,M⟩=Y (I O pt)/\wd.frozen? ⟨w.heap.size,2,M⟩=false/\zL w.heap.size w.heap.size (aW fs) (wd.setCell ⟨w.heap.size,2,M⟩ (I O (RowKit.wrap64 (pt+1)))).drew:=by
 obtain⟨k,p',w4,hx,hg,hb4,Qm⟩:=h;have hp:=hx.prog;obtain⟨hm,qW,hq⟩:=hg;have b1:wd.heap[w.heap.size]?=Y (L (cM p' k) 105):=by rw[Qm];exact KV hp.aT k
 refine⟨p'.ct.1,cell_of b1 2 rfl,aw b1 2,{ p' with ct:=Sp.aA p'.ct },k,p'.ct,mb b1 _,?_,?_,?_,?_,qW,rfl,hm.pt (by unfold In64;show(-9223372036854775808:Int)<=0/\(0:Int)<=9223372036854775807;omega),by rw[hq];rfl⟩
 ·refine aY hp.jS (fun g ou=>?_)
  have dF:=(hp.dE hp.aT kZ).1;have NR:g≠w.heap.size:=fun e=>dF (by rw[<-e];exact ou)
  show(wd.setCell _ _).heap[g]?=_;rw[Below.heap_setCell _ _ _ _ NR,Qm];exact Below.heap_setCell _ _ _ _ NR
 ·refine aY hp.kU (fun g ou=>?_)
  have dF:=(hp.dE hp.aT kZ).2;have NR:g≠w.heap.size:=fun e=>dF (by rw[<-e];exact ou)
  show(wd.setCell _ _).heap[g]?=_;rw[Below.heap_setCell _ _ _ _ NR,Qm];exact Below.heap_setCell _ _ _ _ NR
 ·have:=hm.nl
  have h0:BP.ns.length=0:=rfl;have h4:=(show FR _ _ _ s [] _ p' w4 from hx).sz;have:=qY s.data.toList;have hlen:s.data.toList.length=s.size:=by simp
  show p'.ns.length<=2000;omega
 ·have:=hm.ql
  have h0:BP.qs.length=0:=rfl;have h4:=(show FR _ _ _ s [] _ p' w4 from hx).sz;have:=qY s.data.toList;have hlen:s.data.toList.length=s.size:=by simp
  show p'.qs.length<=2000;omega
theorem oL(s:ByteArray)(hmax:s.size<=1048576)(w:Wd):Calls prog 40 #[χ s] w (gY s w):=by
 have hlen:s.data.toList.length=s.size:=by simp
 by_cases hs:400<s.size
 ·have HT:Hid (Sp.tree s.data.toList=.error (1,0)):=IZ (by omega)
  go_enter func40,ntmps40;go_wp2_with fail;try simp only[Exit.inBlock,Exit.then]
  refine bodyPost_ret (v:=φ #[ρ M,I O 1,I O 0]) (by simp[results,results40,go_sem]) rfl ?_;unfold gY;rw[HT.out];exact⟨Below.refl _ _,rfl⟩
 ·have Ut:s.size<=400:=by omega
  have HS:Hid (¬ 400<s.data.toList.length):=by unfold Hid;omega
  have HF:=CG w s Ut;go_enter func40,ntmps40;go_wp2_with fail;refine HF.mono ?_;rintro e w3⟨rfl,eG,qW⟩;have c4:=cell_of eG.aT 4 (v:=ρ (Y ⟨w.heap.size,0,M⟩)) rfl;have f1:=aw eG.prog.aT 1;have ZC:=hid (And.intro eG qW);have ZG:Hid (FR w.heap.size (w.heap.size+1) w.heap.size s (Sp.skip s.data.toList) 0 BP w3.drew):=FX.drew (r:=.ok (Sp.skip s.data.toList)) eG;clear eG qW HF;go_wp2_with fail
  go_cut [] from 6 (fun wd=>Sg w s (Lg s) wd)
  case first =>
   go_region_with (go_at_call 66;refine(EN ZG.out).mono ?_;rintro e w4 ⟨k,p',rfl,h4,k4,g4⟩;obtain⟨i',a',t',o',Yv,Is⟩:=h4.KZ;have c4':=cell_of Is 4 (v:=ρ (Y ⟨w.heap.size,0,M⟩)) rfl;have d1:=cell_of h4.prog.aT 1 (v:=I O 0) rfl;have f1':=aw h4.prog.aT 1;have H4:Hid (_/\_/\_):=And.intro h4 (And.intro k4 g4);clear h4 k4 g4 Is)
   all_goals
    go_wp2_with fail;go_meet;exact⟨k,p',w4,H4.1,H4.2.2,(ZC.2.drew).trans (H4.2.1.below ZG.prog (by omega) (by have:=ZC.2.size;exact this)),rfl⟩
  case rest =>
   clear c4 f1 ZC ZG;obtain⟨HB,c4,cI⟩:=PW hcut;have Qg:=hid hcut;have mH:=hid HB;clear hcut HB;generalize wc=wo at *
   rcases aS:Lg s with er | ⟨fs,l1⟩
   ·rw[aS]at cI
    simp only[left]at cI;obtain⟨hz,c6,c2⟩:=cI;obtain⟨q,hq⟩:∃q:Int,Hid (q=(er.1:Int)):=⟨_,fJ _⟩;obtain⟨pl,J6⟩:∃pl:Int,Hid (pl=((s.size - er.2:Nat):Int)):=⟨_,fJ _⟩;have jm:¬ q=0:=by rw[hq.out];omega
    have gU:(q == 0)=false:=by simpa using jm
    rw[<-hq.out]at c6;rw[<-J6.out]at c2;have HT:Hid (Sp.tree s.data.toList=.error (er.1,s.data.toList.length - er.2)):=Np HS.out aS;clear hz aS Qg;go_wp2_with fail
    go_region_with (fail)
    all_goals
     go_wp2_with fail;try simp only[Exit.inBlock,Exit.then]
     refine bodyPost_ret (v:=φ #[ρ M,I O q,I O pl]) (by simp[results,results40,go_sem]) rfl ?_;unfold gY;rw[HT.out];exact⟨mH.drew,by rw[hq.out,J6.out];simp⟩
   ·rw[aS]at cI
    simp only[left]at cI;obtain⟨hl,i,t,o,hb⟩:=cI;have c6:=cell_of hb 6 (v:=I O 0) rfl;by_cases yd:l1=[]
    ·subst yd
     have c2:=cell_of hb 2 (v:=I O ((s.size:Nat):Int)) rfl;have HT:Hid (Sp.tree s.data.toList=.ok (aW fs)):=Pj HS.out aS;have WT:=Qg.out;rw[aS]at WT;obtain⟨pt,d2,f2,DY⟩:=No WT;have HP:=hid DY;clear aS Qg WT DY;go_wp2_with fail
     go_cut [] from 6 (fun wc=>wc=(wo.setCell ⟨w.heap.size,2,M⟩ (I O (RowKit.wrap64 (pt+1)))).drew)
     case first =>
      go_region_with (fail)
      all_goals
       go_wp2_with fail;go_meet;rw[IntWalk.i64_left]
     case rest =>
      have Is:wc.heap[w.heap.size+1]?=Y (L (cc s i ((s.size - ([]:Sp.Bs).length:Nat):Int) t w.heap.size o 0) 174):=by rw[hcut];exact(Below.heap_setCell _ _ _ _ (by simp)).trans hb
      have c4':=cell_of Is 4 (v:=ρ (Y ⟨w.heap.size,0,M⟩)) rfl;have kV:Hid (ω w wc):=by unfold Hid;rw[hcut];exact(mH.setCell (p:=⟨w.heap.size,2,M⟩) (Nat.le_refl _) _).drew
      have HP2:Hid (zL w.heap.size w.heap.size (aW fs) wc):=by unfold Hid;rw[hcut];exact HP.out
      clear hcut Is c4 d2 f2 c6 c2 hb HP mH;go_wp2_with fail;try simp only[Exit.inBlock,Exit.then]
      refine bodyPost_ret (v:=φ #[ρ (Y ⟨w.heap.size,0,M⟩),I O 0,I O 0]) (by simp[results,results40,go_sem]) rfl ?_;unfold gY;rw[HT.out];exact⟨kV.out,_,rfl,Nat.le_refl _,HP2.out⟩
    ·obtain⟨pl,J6⟩:∃pl:Int,Hid (pl=((s.size - l1.length:Nat):Int)):=⟨_,fJ _⟩
     have c2:=cell_of hb 2 (v:=I O pl) (by rw[J6.out];rfl);have cR:pl<(s.size:Int):=by have:0<l1.length:=List.length_pos_iff.2 yd;rw[J6.out];omega
     have HT:Hid (Sp.tree s.data.toList=.error (2,s.data.toList.length - l1.length)):=I8 HS.out yd aS;have HW:=JE hb;have xS:w.heap.size+1<wo.heap.size:=ad hb;clear aS Qg yd;go_wp2_with fail;refine HW.mono ?_;rintro e w5⟨rfl,rfl⟩;clear HW;have kV:Hid (ω w (wo.setCell ⟨w.heap.size+1,6,M⟩ (I O 2))):=mH.setCell (p:=⟨w.heap.size+1,6,M⟩) (by simp) _;go_wp2_with fail
     go_region_with (fail)
     all_goals
      go_wp2_with fail;try simp only[Exit.inBlock,Exit.then]
      refine bodyPost_ret (v:=φ #[ρ M,I O 2,I O pl]) (by simp[results,results40,go_sem]) rfl ?_;unfold gY;rw[HT.out];exact⟨kV.drew,by rw[J6.out];simp⟩
end
end
theorem FV(n:Int):(n.tmod 65536=n % 65536/\0<=n.tmod 65536)∨(n.tmod 65536=n % 65536 - 65536/\n.tmod 65536<0):=by
 have h:=Int.tmod_eq_emod (a:=n) (b:=65536);have h0:=Int.emod_nonneg n (show(65536:Int)≠0 by decide);have h1:=Int.emod_lt_of_pos n (show(0:Int)<65536 by decide);by_cases hc:0<=n∨(65536:Int) ∣ n
 ·rw[if_pos hc]at h
  omega
 ·rw[if_neg hc]at h
  have e:((65536:Int).natAbs:Int)=65536:=rfl;omega
theorem yx(n:Int)(w:Wd) :
  Calls prog 141 #[I O n,I O 65536] w fun e w'=>e=υ (I O (n % 65536))/\w'=w:=by
 rcases FV n with⟨h1,h2⟩ | ⟨h1,h2⟩
 ·have h3:¬ n.tmod 65536<0:=by omega
  go_enter func141,ntmps141;go_wp2_with fail;go_ret;exact⟨by rw[<-h1];rfl,rfl⟩
 ·have h3:RowKit.wrap64 (n.tmod 65536+65536)=n % 65536:=by
   have:=Int.emod_nonneg n (show(65536:Int)≠0 by decide);rw[h1];unfold RowKit.wrap64;omega
  go_enter func141,ntmps141;go_wp2_with fail;go_ret;exact⟨by rw[<-h3];rfl,rfl⟩
theorem SJ(n:Int):tX n=(n+32768) % 65536 - 32768:=by
 have h:tX n=if(32768:Int)<=n % 65536 then n % 65536 - 65536 else n % 65536:=by unfold tX IntKind.wrap;simp[IntKind.bits,IntKind.signed]
 rw[h];split<;>omega
theorem tR(n:Int)(w:Wd) :
  Calls prog 103 #[I O n] w fun e w'=>e=υ (I O (tX n))/\w'=w:=by
 have h0:=Int.emod_nonneg n (show(65536:Int)≠0 by decide);have h1:=Int.emod_lt_of_pos n (show(0:Int)<65536 by decide);have HW:Hid (tX n=if 32767<n % 65536 then n % 65536 - 65536 else n % 65536):=by unfold Hid;rw[SJ];split<;>omega
 obtain⟨q,hq⟩:∃q,Hid (q=n % 65536):=⟨_,rfl⟩;have Ow:0<=q:=by rw[hq.out];exact h0
 have DV:q<65536:=by rw[hq.out];exact h1
 have HM:=yx n w;rw[<-hq.out]at HM;have KG:Hid (tX n=if 32767<q then q - 65536 else q):=by rw[hq.out];exact HW
 clear h0 h1 HW;by_cases hc:32767<q
 ·go_enter func103,ntmps103
  go_wp2_with fail;refine HM.mono ?_;rintro e w1⟨rfl,rfl⟩;go_wp2_with fail;go_ret;exact⟨by rw[KG.out,if_pos hc];rfl,rfl⟩
 ·go_enter func103,ntmps103
  go_wp2_with fail;refine HM.mono ?_;rintro e w1⟨rfl,rfl⟩;go_wp2_with fail;go_ret;exact⟨by rw[KG.out,if_neg (by omega)];rfl,rfl⟩
theorem AE(k:Nat)(hk:k<6)(x y:Int)(w:Wd) :
  Calls prog 104 #[I O x,χ ⟨(aL k).toArray⟩,I O y] w fun e w'=>e=υ (U (Sp.holds k x y))/\w'=w:=by
 have:k=0∨k=1∨k=2∨k=3∨k=4∨k=5:=by omega
 rcases this with rfl | rfl | rfl | rfl | rfl | rfl
 all_goals
  simp only[aL];go_enter func104,ntmps104;go_wp2_with fail;go_ret;refine⟨eK ?_,rfl⟩;simp[Sp.holds]
section
section
variable{pb g cap j:Nat}
variable{ns:List aH}
structure db(pb g cap:Nat)(ns:List aH)(w:Wd):Prop where
 slice:w.cell? ⟨pb,0,M⟩=Y (Z (Y ⟨g,0,M⟩) ns.length cap)
 cells:∀(j:Nat) (d:aH) (c:Nat) (u:Value),ns[j]?=Y d->c<10->(cm d)[c]?=Y u->w.cell? ⟨g,j*10+c,M⟩=Y u
 ltp:pb<w.heap.size
 ltg:g<w.heap.size
 ow:ns.length<=cap
 hmax:cap<=maxLen
 hn:ns.length<=2000
theorem db.after{w w':Wd}(h:db pb g cap ns w)(hb:ω w w'):db pb g cap ns w' :=
 ⟨by rw[hb.cell (p:=⟨pb,0,M⟩) h.ltp];exact h.slice,fun j d c u h1 h2 h3=>by rw[hb.cell (p:=⟨g,j*10+c,M⟩) h.ltg];exact h.cells j d c u h1 h2 h3,Nat.lt_of_lt_of_le h.ltp hb.size,Nat.lt_of_lt_of_le h.ltg hb.size,h.ow,h.hmax,h.hn⟩
theorem db.facts{w:Wd}(h:db pb g cap ns w){d:aH}(hd:ns[j]?=Y d) :
  j<ns.length/\w.cell? ⟨g,j*10,M⟩=Y (I O d.kind)/\w.cell? ⟨g,j*10+1,M⟩=Y (I O d.a)/\w.cell? ⟨g,j*10+2,M⟩=Y (I O d.b)/\w.cell? ⟨g,j*10+3,M⟩=Y (I O d.c)/\w.cell? ⟨g,j*10+4,M⟩=Y (I O d.n)/\w.cell? ⟨g,j*10+5,M⟩=Y (I O d.next)/\w.cell? ⟨g,j*10+6,M⟩=Y (χ ⟨d.sign.toArray⟩)/\w.cell? ⟨g,j*10+7,M⟩=Y (I O d.site)/\w.cell? ⟨g,j*10+8,M⟩=Y (I O d.ay)/\w.cell? ⟨g,j*10+9,M⟩=Y (U d.els):=by
 have c:=fun(c:Nat) {u:Value} (hc:c<10) (hu:(cm d)[c]?=Y u)=>h.cells j d c u hd hc hu
 exact⟨(List.getElem?_eq_some_iff.1 hd).1,c 0 (by omega) rfl,c 1 (by omega) rfl,c 2 (by omega) rfl,c 3 (by omega) rfl,c 4 (by omega) rfl,c 5 (by omega) rfl,c 6 (by omega) rfl,c 7 (by omega) rfl,c 8 (by omega) rfl,c 9 (by omega) rfl⟩
end
end
end Go.Proofs.YtiopfihjmkfdmaaGreatDoor
