import Derived.Test.YtiopfihjmkfdmabGreatDoorC2
import Derived.BigQuiet
import Derived.Deep.DeepFit
import Derived.Deep.QuietTactic
import Derived.Deep.RegionWith
import Derived.Defers
import Derived.Lib.IndexAny
import Derived.Maps.AppendAt
import Derived.Maps.OwnSet
import Derived.Recover
import Derived.RegionDies
import Derived.Test.YtiopfihjmkfdmabGreatDoorCh
namespace Go.Proofs.YtiopfihjmkfdmabGreatDoor
open Option renaming some->Y,none->M
open Go.Value renaming pointer->ρ,tuple->φ,bool->U,iface->σ,int->I,slice->Z,string->χ,agg->J
open Go.Ending renaming returned->υ
open Go.IntKind renaming i64->O
open Go.Proofs.Tryz Sp
open Go.RowKit
set_option maxRecDepth 100000
set_option maxHeartbeats 16000000
theorem Ij(p q:Addr)(w:Wd) :
  CallsD prog 37 #[ρ (Y p),ρ (Y q)] .returning w λe u' w'=>e=υ (φ #[])/\u'=.returning/\w'=w:=by
 refine callsD_of_wpS func37 rfl λc₀ cs hu=>?_
 apply wpS_seq;apply wpS_region;simp[wpOpsS,go_sem,recoverD,hu,ntmps37,Exit.thenS];refine wpS_of_wp ?_;go_wp2_with fail;cases c₀
 simp_all [bodyPostS,results,results37]
theorem C8(a:Addr)(w:Wd):(Instr.typeAssert (σ 95 (ρ (Y a))) 20 95 true).run prog w=.ok (φ #[ρ (Y a),U true]) w:=Ã
theorem wY(P Q:Nat)(a:Addr)(w:Wd)(v0 v1 v3 v4 v2:Value)(hp:w.cell? ⟨P,0,M⟩=Y v0)(tV:w.cell? ⟨P,1,M⟩=Y v1)(tY:w.cell? ⟨P,2,M⟩=Y v3)(DB:w.cell? ⟨P,3,M⟩=Y v4)(fp:w.frozen? ⟨P,0,M⟩=false)(fp1:w.frozen? ⟨P,1,M⟩=false)(fp2:w.frozen? ⟨P,2,M⟩=false)(fp3:w.frozen? ⟨P,3,M⟩=false)(hq:w.cell? ⟨Q,0,M⟩=Y v2)(fq:w.frozen? ⟨Q,0,M⟩=false)(BN:P≠Q) :
  CallsD prog 37 #[ρ (Y ⟨P,0,M⟩),ρ (Y ⟨Q,0,M⟩)] (.panicking [{v:=σ 95 (ρ (Y a)),recovered:=false}]) w λe u' w'=>
   e=υ (φ #[])/\u'=.panicking [{v:=σ 95 (ρ (Y a)),recovered:=true}]/\w'=((((w.setCell ⟨P,0,M⟩ (Z M 0 0)).setCell ⟨P,1,M⟩ (I O 0)).setCell ⟨P,2,M⟩ (I O 0)).setCell ⟨P,3,M⟩ (Z M 0 0)).setCell ⟨Q,0,M⟩ (σ 95 (ρ (Y a))):=by
 have ZR:=C8 a;have vh:((((w.setCell ⟨P,0,M⟩ (Z M 0 0)).setCell ⟨P,1,M⟩ (I O 0)).setCell ⟨P,2,M⟩ (I O 0)).setCell ⟨P,3,M⟩ (Z M 0 0)).cell? ⟨Q,0,M⟩=Y v2:=by rw[World.cell?_of_block (w:=w) (by rw[Æ _ _ _ _ (λe=>BN e.symm),Æ _ _ _ _ (λe=>BN e.symm),Æ _ _ _ _ (λe=>BN e.symm),Æ _ _ _ _ (λe=>BN e.symm)])];exact hq
 have fq2:((((w.setCell ⟨P,0,M⟩ (Z M 0 0)).setCell ⟨P,1,M⟩ (I O 0)).setCell ⟨P,2,M⟩ (I O 0)).setCell ⟨P,3,M⟩ (Z M 0 0)).frozen? ⟨Q,0,M⟩=false:=by rw[World.frozen?_of_block (w:=w) (by rw[Æ _ _ _ _ (λe=>BN e.symm),Æ _ _ _ _ (λe=>BN e.symm),Æ _ _ _ _ (λe=>BN e.symm),Æ _ _ _ _ (λe=>BN e.symm)])];exact fq
 refine callsD_of_wpS func37 rfl λc₀ cs hu=>?_
 apply wpS_seq;apply wpS_region;simp[wpOpsS,go_sem,recoverD,hu,ntmps37,Exit.thenS];refine wpS_of_wp ?_;change Code.wp _ _ _ {tmps:=#[ρ (Y ⟨P,0,M⟩),ρ (Y ⟨Q,0,M⟩),undef,undef,undef,σ 95 (ρ (Y a)),undef,undef,undef,undef,undef,undef,undef,undef],defers:=[]} _;go_wp2_with fail;simp[bodyPostS,results,results37]
namespace Sp
section
variable{t l l1:Bs}
variable{o k lv:Nat}
variable{A:fE}
theorem cd(h:take t l=.ok l1):tok l=t/\l1=next l:=by
 unfold take at h;split at h
 .cases h;exact⟨by assumption,rfl⟩
 .cases h
theorem cI(h:enter t o l=.ok l1):tok l=t/\o≠12/\l1=next l:=by
 unfold enter at h;split at h
 .split at h
  .cases h
  .cases h;exact⟨by assumption,by assumption,rfl⟩
 .cases h
theorem gP(h:dN l=.ok (k,l1)):aS l=Y k/\l1=next l:=by
 unfold dN at h;split at h
 .rename_i hk;cases h;exact⟨hk,rfl⟩
 .cases h
theorem rK{part:Bs->R A.S}(hp:∀l x l1,part l=.ok (x,l1)->l1.length<=l.length) :
  ∀(m:Nat) (x:A.S) (l:Bs) (y:A.S) (l1:Bs),bK A lv part m x l=.ok (y,l1)->l1.length<=l.length
 |0,x,l,y,l1,h=>by unfold bK at h;cases h;exact È
 |m+1,x,l,y,l1,h=>by
  unfold bK at h;split at h
  .split at h
   .split at h
    .rename_i y' l' hr
     have h1:=hp _ _ _ hr;have h2:=rK hp m _ _ _ _ h;have h3:=cr l;omega
    .cases h
   .cases h;exact È
  .cases h;exact È
theorem vg{part:Bs->R A.S}(hp:∀l x l1,part l=.ok (x,l1)->l1.length<=l.length)(l:Bs)(y:A.S)(l1:Bs)(h:bS A lv part l=.ok (y,l1)):l1.length<=l.length:=by
 unfold bS at h;split at h
 .rename_i x l' hr
  have h1:=hp _ _ _ hr;have h2:=rK hp _ _ _ _ _ h;omega
 .cases h
theorem ET{part:Bs->R A.S}(hp:∀l x l1,part l=.ok (x,l1)->l1.length<l.length)(l:Bs)(y:A.S)(l1:Bs)(h:bS A lv part l=.ok (y,l1)):l1.length<l.length:=by
 unfold bS at h;split at h
 .rename_i x l' hr
  have h1:=hp _ _ _ hr;have h2:=rK (λl x l1 h=>Nat.le_of_lt (hp l x l1 h)) _ _ _ _ _ h;omega
 .cases h
theorem JB{u:Bs->R A.S}(hp:∀l x l1,u l=.ok (x,l1)->l1.length<l.length)(l:Bs)(y:A.S)(l1:Bs)(h:oI A u l=.ok (y,l1)):l1.length<l.length:=
 ET (ET hp) l y l1 h
theorem fL(h:aS l=Y k):aC l=2:=by
 unfold aS at h;split at h
 .split at h
  .rename_i hc;exact hc.1
  .cases h
 .cases h
theorem jz:∀(n o:Nat) (l:Bs) (x:A.S) (l1:Bs),bp A n o l=.ok (x,l1)->l1.length<l.length
 |0,o,l,x,l1,h=>by unfold bp bad at h;cases h
 |n+1,o,l,x,l1,h=>by
  unfold bp at h;split at h
  .rename_i hk
   split at h
   .cases h;exact gl (dj (.inr (.inl hk)))
   .cases h
  .split at h
   .split at h
    .rename_i k l2 hr
     cases h
     obtain⟨hk,rfl⟩:=gP hr;exact gl (dj (.inl (fL hk)))
    .cases h
   .split at h
    .split at h
     .rename_i l2 hr
      obtain⟨ht,_,rfl⟩:=cI hr;have:=aJ ht Ä;split at h
      .rename_i x2 l3 pD
       have:=jz n _ _ _ _ pD;cases h;omega
      .cases h
     .cases h
    .split at h
     .rename_i l2 hr
      obtain⟨ht,_,rfl⟩:=cI hr;have:=aJ ht Ä;split at h
      .rename_i x2 l3 pD
       have:=JB (jz n (o+1)) _ _ _ pD;split at h
       .rename_i l4 DL
        obtain⟨_,rfl⟩:=cd DL;have:=cr l3;cases h;omega
       .cases h
      .cases h
     .cases h
end
end Sp
section
open Go.RowKit Go.WideMaps Go.Maps
structure Laid(w:Wd):Prop where
 size:11<=w.heap.size
 ops:∀k,k<5->w.cell? ⟨1,k,M⟩=Y (χ ⟨(bB k).toArray⟩)
 rels:∀k,k<6->w.cell? ⟨2,k,M⟩=Y (χ ⟨(aM k).toArray⟩)
 errS:∃tp p,w.cell? ⟨9,0,M⟩=Y (σ tp p)
 errR:∃tp p,w.cell? ⟨10,0,M⟩=Y (σ tp p)
 pow:Lib.TabIs prog w "internal/strconv.uint64pow10" .u64 Lib.pow10Tab
theorem CS(k:Nat)(hk:k<5)(w:Wd)(h:w.cell? ⟨1,k,M⟩=Y (χ ⟨(bB k).toArray⟩)) :
  Calls prog 74 #[I O k] w λe w'=>e=υ (χ ⟨(bB k).toArray⟩)/\w'=w:=by
 generalize (⟨(bB k).toArray⟩:ByteArray)=t at*;go_enter func74,ntmps74;go_wp2_with fail;go_ret;exact⟨rfl,rfl⟩
theorem Ae(k:Nat)(hk:k<6)(w:Wd)(h:w.cell? ⟨2,k,M⟩=Y (χ ⟨(aM k).toArray⟩)) :
  Calls prog 75 #[I O k] w λe w'=>e=υ (χ ⟨(aM k).toArray⟩)/\w'=w:=by
 generalize (⟨(aM k).toArray⟩:ByteArray)=t at*;go_enter func75,ntmps75;go_wp2_with fail;go_ret;exact⟨rfl,rfl⟩
theorem rl(k:Nat)(hk:k<5)(w:Wd) :
  Calls prog 216 #[I O k] w λe w'=>e=υ (U (decide (3<=k)))/\w'=w:=by
 have wF:k=3∨k=4∨(k<3/\¬((k:Int)=3)/\¬((k:Int)=4)):=À
 rcases wF with rfl|rfl|⟨h2,h0,h1⟩
 .go_enter func216,ntmps216
  go_wp2_with fail;go_ret;exact⟨rfl,rfl⟩
 .go_enter func216,ntmps216
  go_wp2_with fail;go_ret;exact⟨rfl,rfl⟩
 .have hl:Hid (decide (3<=k)=false):=by unfold Hid;simp;omega
  clear h2 hk;go_enter func216,ntmps216;go_wp2_with fail;go_ret;refine⟨bt ?_,rfl⟩;rw[hl.out];simp[h0,h1]
theorem jI(k:Nat)(hk:k<5)(w:Wd) :
  Calls prog 179 #[I O k] w λe w'=>e=υ (I O (cT k))/\w'=w:=by
 have wF:k=0∨k=1∨(2<=k/\¬((k:Int)=0)/\¬((k:Int)=1)):=À
 rcases wF with rfl|rfl|⟨h2,h0,h1⟩
 .go_enter func179,ntmps179
  go_wp2_with fail;go_ret;exact⟨rfl,rfl⟩
 .go_enter func179,ntmps179
  go_wp2_with fail;go_ret;exact⟨rfl,rfl⟩
 .have hl:Hid (cT k=1):=by unfold Hid cT;rw[Â À]
  have b0:((k:Int)==0)=false:=by simp;omega
  have b1:((k:Int)==1)=false:=by simp;omega
  go_enter func179,ntmps179;go_wp2_with fail;go_ret;exact⟨dc (by rw[hl.out];rfl),rfl⟩
theorem R9:Keyed prog 9:=string_keyed underlying9
theorem Vb(w:Wd):(zeroValue 228).run prog w=.ok (I O 0) w:=Ã
theorem SB(w:Wd):(zeroValue 229).run prog w=.ok (I O 0) w:=Ã
def mJ:Nat->DataW Unit
 |0=>.map []
 |k+1=>(mJ k).put (.string (bB k)) (.lit (.int O k))
def fB:Nat->DataW Unit
 |0=>.map []
 |k+1=>(fB k).put (.string (aM k)) (.lit (.int O k))
def j5(m:Nat)(w:Wd):Prop:=w.ownsMap prog 9 (plainElem (H:=Unit) prog 228) m 5 (mJ 5)
def iu(m:Nat)(w:Wd):Prop:=w.ownsMap prog 9 (plainElem (H:=Unit) prog 229) m 6 (fB 6)
theorem Cc(t:Sp.Bs)(h:t.length<=400):keyOf prog 9 (.string ⟨t.toArray⟩)=Y (.string t):=by have:=keyOf_string_mk (P:=prog) (s:=⟨t.toArray⟩) underlying9 (by show t.toArray.size<=maxLen;unfold maxLen;simp;omega);simpa using this
theorem Iw(k:Nat):(bB k).length<=400:=by unfold bB;split<;>decide
theorem E6(k:Nat):(aM k).length<=400:=by unfold aM;split<;>decide
theorem Lo(w:Wd)(hL:Laid w) :
  Calls prog 39 #[] w λe w'=>e=υ (.map (Y w.heap.size))/\j5 w.heap.size w'/\ω w w':=by
 have hmm:=@run_makeMap prog;go_enter func39,ntmps39;go_wp2_with fail
 go_loopw [2] (λi wr=>∃k:Nat,k<=5/\i=.int O k/\wr.ownsMap prog 9 (plainElem (H:=Unit) prog 228) w.heap.size k (mJ k)/\ω w wr)
  (λi _=>5-(intOf i).toNat)
 case atStart=>exact⟨0,Ì,rfl,World.ownsMap_made _ _ _ _,(Å).alloc È _⟩
 case round=>
  obtain⟨k,hk,rfl,kO,fD⟩:=hrel;by_cases df:k<5
  .have hc:wr.cell? ⟨1,k,M⟩=Y (.string ⟨(bB k).toArray⟩):=by
    rw[fD.cell (by have:=hL.size;show 1<w.heap.size;omega)];exact hL.ops k df
   have HC:Hid (wr.cell? ⟨1,k,M⟩=Y (.string ⟨(bB k).toArray⟩)):=hc;clear hc;have hle:(k:Int)<=4:=À;have W6:=Cc (bB k) (Iw k);have Xn:(Lit.int O (k:Int)).wf=true:=by have:=wrap64_wf (k:Int);rwa[IntWalk.wrap64_in _ À]at this
   go_wp2_with fail;refine(CS k df _ HC.out).mono ?_;rintro e w'⟨rfl,rfl⟩;go_wp2_with (first
    |(at_mapUpdate;refine wpList_mapUpdate_own _ rfl _ _ _ 138 rfl 9 228 R9 underlying138 _ w.heap.size k _ rfl kO (by unfold maxLen;omega) _ _ _ rfl rfl W6 _ [] (þ underlying228 Xn) ?_)
    |go_in)
   intro w1 tU zY;have R2:=fD.grown zY fD.size (λj hj=>by cases hj;exact È);clear zY kO;go_wp2_with fail;exact⟨⟨k+1,À,by go_num,tU,R2⟩,by simp[intOf];omega⟩
  .have nN:¬(k:Int)<=4:=À
   have e:k=5:=À;subst e;go_wp2_with fail;go_ret;exact⟨rfl,kO,fD⟩
theorem Iq(w:Wd)(hL:Laid w) :
  Calls prog 40 #[] w λe w'=>e=υ (.map (Y w.heap.size))/\iu w.heap.size w'/\ω w w':=by
 have hmm:=@run_makeMap prog;go_enter func40,ntmps40;go_wp2_with fail
 go_loopw [2] (λi wr=>∃k:Nat,k<=6/\i=.int O k/\wr.ownsMap prog 9 (plainElem (H:=Unit) prog 229) w.heap.size k (fB k)/\ω w wr)
  (λi _=>6-(intOf i).toNat)
 case atStart=>exact⟨0,Ì,rfl,World.ownsMap_made _ _ _ _,(Å).alloc È _⟩
 case round=>
  obtain⟨k,hk,rfl,kO,fD⟩:=hrel;by_cases df:k<6
  .have hc:wr.cell? ⟨2,k,M⟩=Y (.string ⟨(aM k).toArray⟩):=by
    rw[fD.cell (by have:=hL.size;show 2<w.heap.size;omega)];exact hL.rels k df
   have HC:Hid (wr.cell? ⟨2,k,M⟩=Y (.string ⟨(aM k).toArray⟩)):=hc;clear hc;have hle:(k:Int)<=5:=À;have W6:=Cc (aM k) (E6 k);have Xn:(Lit.int O (k:Int)).wf=true:=by have:=wrap64_wf (k:Int);rwa[IntWalk.wrap64_in _ À]at this
   go_wp2_with fail;refine(Ae k df _ HC.out).mono ?_;rintro e w'⟨rfl,rfl⟩;go_wp2_with (first
    |(at_mapUpdate;refine wpList_mapUpdate_own _ rfl _ _ _ 140 rfl 9 229 R9 underlying140 _ w.heap.size k _ rfl kO (by unfold maxLen;omega) _ _ _ rfl rfl W6 _ [] (þ underlying229 Xn) ?_)
    |go_in)
   intro w1 tU zY;have R2:=fD.grown zY fD.size (λj hj=>by cases hj;exact È);clear zY kO;go_wp2_with fail;exact⟨⟨k+1,À,by go_num,tU,R2⟩,by simp[intOf];omega⟩
  .have nN:¬(k:Int)<=5:=À
   have e:k=6:=À;subst e;go_wp2_with fail;go_ret;exact⟨rfl,kO,fD⟩
end
section
open Go.RowKit Go.WideMaps Go.Maps
section
variable{b m:Nat}
variable{w w':Wd}
theorem jv:∀k,IsMap (mJ k)
 |0=>isMap_empty
 |k+1=>(jv k).put _ _
theorem gD:∀k,IsMap (fB k)
 |0=>isMap_empty
 |k+1=>(gD k).put _ _
theorem PK{a b:Sp.Bs}(h:a≠b):(Lit.string a)≠Lit.string b:=λe=>h (Lit.string.inj e)
theorem fA{D:DataW Unit}(hD:IsMap D)(t:Sp.Bs)(d z:DataW Unit):Maps.has (D.put (.string t) d) (.string t)=true/\(D.put (.string t) d).atKey (.string t) z=d:=
 ⟨has_put_same hD (by simp[WideAt.IsKeyLit]) _,atKey_put_same hD (by simp[WideAt.IsKeyLit]) _ _⟩
theorem aN{D:DataW Unit}(t u:Sp.Bs)(d z:DataW Unit)(h:u≠t):Maps.has (D.put (.string t) d) (.string u)=Maps.has D (.string u)/\(D.put (.string t) d).atKey (.string u) z=D.atKey (.string u) z:=
 ⟨has_put_other (PK h) _,atKey_put_other (PK h) _ _⟩
theorem Pl(t:Sp.Bs)(z:DataW Unit):Maps.has (mJ 5) (.string t)=(eA t).isSome/\(mJ 5).atKey (.string t) z=(match eA t with|some k=>.lit (.int O (k:Nat))|none=>z):=by
 unfold eA;by_cases h0:t=[43]
 .subst h0
  have e4:=aN (D:=mJ 4) (bB 4) [43] (.lit (.int O (4:Nat))) z É;have e3:=aN (D:=mJ 3) (bB 3) [43] (.lit (.int O (3:Nat))) z É;have e2:=aN (D:=mJ 2) (bB 2) [43] (.lit (.int O (2:Nat))) z É;have e1:=aN (D:=mJ 1) (bB 1) [43] (.lit (.int O (1:Nat))) z É;have e0:=fA (jv 0) [43] (.lit (.int O (0:Nat))) z;exact⟨(e4.1.trans (e3.1.trans (e2.1.trans (e1.1.trans e0.1)))),(e4.2.trans (e3.2.trans (e2.2.trans (e1.2.trans e0.2))))⟩
 by_cases h1:t=[45]
 .subst h1
  have e4:=aN (D:=mJ 4) (bB 4) [45] (.lit (.int O (4:Nat))) z É;have e3:=aN (D:=mJ 3) (bB 3) [45] (.lit (.int O (3:Nat))) z É;have e2:=aN (D:=mJ 2) (bB 2) [45] (.lit (.int O (2:Nat))) z É;have e1:=fA (jv 1) [45] (.lit (.int O (1:Nat))) z;exact⟨(e4.1.trans (e3.1.trans (e2.1.trans e1.1))),(e4.2.trans (e3.2.trans (e2.2.trans e1.2)))⟩
 by_cases h2:t=[42]
 .subst h2
  have e4:=aN (D:=mJ 4) (bB 4) [42] (.lit (.int O (4:Nat))) z É;have e3:=aN (D:=mJ 3) (bB 3) [42] (.lit (.int O (3:Nat))) z É;have e2:=fA (jv 2) [42] (.lit (.int O (2:Nat))) z;exact⟨(e4.1.trans (e3.1.trans e2.1)),(e4.2.trans (e3.2.trans e2.2))⟩
 by_cases h3:t=[47]
 .subst h3
  have e4:=aN (D:=mJ 4) (bB 4) [47] (.lit (.int O (4:Nat))) z É;have e3:=fA (jv 3) [47] (.lit (.int O (3:Nat))) z;exact⟨(e4.1.trans e3.1),(e4.2.trans e3.2)⟩
 by_cases h4:t=[37]
 .subst h4
  have e4:=fA (jv 4) [37] (.lit (.int O (4:Nat))) z;exact⟨ e4.1,  e4.2⟩
 have e4:=aN (D:=mJ 4) (bB 4) t (.lit (.int O (4:Nat))) z h4;have e3:=aN (D:=mJ 3) (bB 3) t (.lit (.int O (3:Nat))) z h3;have e2:=aN (D:=mJ 2) (bB 2) t (.lit (.int O (2:Nat))) z h2;have e1:=aN (D:=mJ 1) (bB 1) t (.lit (.int O (1:Nat))) z h1;have e0:=aN (D:=mJ 0) (bB 0) t (.lit (.int O (0:Nat))) z h0;rw[Â h0,Â h1,Â h2,Â h3,Â h4];exact⟨(e4.1.trans (e3.1.trans (e2.1.trans (e1.1.trans (e0.1.trans rfl))))),(e4.2.trans (e3.2.trans (e2.2.trans (e1.2.trans (e0.2.trans rfl)))))⟩
theorem MD(t:Sp.Bs)(z:DataW Unit):Maps.has (fB 6) (.string t)=(eg t).isSome/\(fB 6).atKey (.string t) z=(match eg t with|some k=>.lit (.int O (k:Nat))|none=>z):=by
 unfold eg;by_cases h0:t=[60]
 .subst h0
  have e5:=aN (D:=fB 5) (aM 5) [60] (.lit (.int O (5:Nat))) z É;have e4:=aN (D:=fB 4) (aM 4) [60] (.lit (.int O (4:Nat))) z É;have e3:=aN (D:=fB 3) (aM 3) [60] (.lit (.int O (3:Nat))) z É;have e2:=aN (D:=fB 2) (aM 2) [60] (.lit (.int O (2:Nat))) z É;have e1:=aN (D:=fB 1) (aM 1) [60] (.lit (.int O (1:Nat))) z É;have e0:=fA (gD 0) [60] (.lit (.int O (0:Nat))) z;exact⟨(e5.1.trans (e4.1.trans (e3.1.trans (e2.1.trans (e1.1.trans e0.1))))),(e5.2.trans (e4.2.trans (e3.2.trans (e2.2.trans (e1.2.trans e0.2)))))⟩
 by_cases h1:t=[60,61]
 .subst h1
  have e5:=aN (D:=fB 5) (aM 5) [60,61] (.lit (.int O (5:Nat))) z É;have e4:=aN (D:=fB 4) (aM 4) [60,61] (.lit (.int O (4:Nat))) z É;have e3:=aN (D:=fB 3) (aM 3) [60,61] (.lit (.int O (3:Nat))) z É;have e2:=aN (D:=fB 2) (aM 2) [60,61] (.lit (.int O (2:Nat))) z É;have e1:=fA (gD 1) [60,61] (.lit (.int O (1:Nat))) z;exact⟨(e5.1.trans (e4.1.trans (e3.1.trans (e2.1.trans e1.1)))),(e5.2.trans (e4.2.trans (e3.2.trans (e2.2.trans e1.2))))⟩
 by_cases h2:t=[61,61]
 .subst h2
  have e5:=aN (D:=fB 5) (aM 5) [61,61] (.lit (.int O (5:Nat))) z É;have e4:=aN (D:=fB 4) (aM 4) [61,61] (.lit (.int O (4:Nat))) z É;have e3:=aN (D:=fB 3) (aM 3) [61,61] (.lit (.int O (3:Nat))) z É;have e2:=fA (gD 2) [61,61] (.lit (.int O (2:Nat))) z;exact⟨(e5.1.trans (e4.1.trans (e3.1.trans e2.1))),(e5.2.trans (e4.2.trans (e3.2.trans e2.2)))⟩
 by_cases h3:t=[33,61]
 .subst h3
  have e5:=aN (D:=fB 5) (aM 5) [33,61] (.lit (.int O (5:Nat))) z É;have e4:=aN (D:=fB 4) (aM 4) [33,61] (.lit (.int O (4:Nat))) z É;have e3:=fA (gD 3) [33,61] (.lit (.int O (3:Nat))) z;exact⟨(e5.1.trans (e4.1.trans e3.1)),(e5.2.trans (e4.2.trans e3.2))⟩
 by_cases h4:t=[62,61]
 .subst h4
  have e5:=aN (D:=fB 5) (aM 5) [62,61] (.lit (.int O (5:Nat))) z É;have e4:=fA (gD 4) [62,61] (.lit (.int O (4:Nat))) z;exact⟨(e5.1.trans e4.1),(e5.2.trans e4.2)⟩
 by_cases h5:t=[62]
 .subst h5
  have e5:=fA (gD 5) [62] (.lit (.int O (5:Nat))) z;exact⟨ e5.1,  e5.2⟩
 have e5:=aN (D:=fB 5) (aM 5) t (.lit (.int O (5:Nat))) z h5;have e4:=aN (D:=fB 4) (aM 4) t (.lit (.int O (4:Nat))) z h4;have e3:=aN (D:=fB 3) (aM 3) t (.lit (.int O (3:Nat))) z h3;have e2:=aN (D:=fB 2) (aM 2) t (.lit (.int O (2:Nat))) z h2;have e1:=aN (D:=fB 1) (aM 1) t (.lit (.int O (1:Nat))) z h1;have e0:=aN (D:=fB 0) (aM 0) t (.lit (.int O (0:Nat))) z h0;rw[Â h0,Â h1,Â h2,Â h3,Â h4,Â h5];exact⟨(e5.1.trans (e4.1.trans (e3.1.trans (e2.1.trans (e1.1.trans (e0.1.trans rfl)))))),(e5.2.trans (e4.2.trans (e3.2.trans (e2.2.trans (e1.2.trans (e0.2.trans rfl))))))⟩
theorem Fh(h:j5 m w)(t:Sp.Bs)(ht:t.length<=400) :
  (Instr.lookup 138 (.map (Y m)) (.string ⟨t.toArray⟩) true).run prog w=.ok (.tuple #[.int O (((eA t).getD 0:Nat):Int),.bool (eA t).isSome]) w:=by
 obtain⟨v,ps,QQ,hv⟩:=World.ownsMap.look_ok h R9 underlying138 (Vb w) (þ underlying228 (a:=0) É) (Cc t ht);have hw:=Pl t (.lit (.int O 0));rw[hw.1]at QQ;rw[hw.2]at hv;obtain⟨a,rfl,hc,_⟩:=plainElem_int_inv underlying228 hv;rw[QQ];cases ho:eA t with
 |none=>rw[ho]at hc;simp at hc;simp[<-hc.1]
 |some k=>rw[ho]at hc;simp at hc;simp[<-hc.1]
theorem A6(h:iu m w)(t:Sp.Bs)(ht:t.length<=400) :
  (Instr.lookup 140 (.map (Y m)) (.string ⟨t.toArray⟩) true).run prog w=.ok (.tuple #[.int O (((eg t).getD 0:Nat):Int),.bool (eg t).isSome]) w:=by
 obtain⟨v,ps,QQ,hv⟩:=World.ownsMap.look_ok h R9 underlying140 (SB w) (þ underlying229 (a:=0) É) (Cc t ht);have hw:=MD t (.lit (.int O 0));rw[hw.1]at QQ;rw[hw.2]at hv;obtain⟨a,rfl,hc,_⟩:=plainElem_int_inv underlying229 hv;rw[QQ];cases ho:eg t with
 |none=>rw[ho]at hc;simp at hc;simp[<-hc.1]
 |some k=>rw[ho]at hc;simp at hc;simp[<-hc.1]
theorem j5.ext(h:j5 m w)(x:Ext b w w')(hb:m≠b):j5 m w':=by obtain⟨es,clock,hh,r⟩:=h;exact⟨es,clock,x.bH hh hb vF,r⟩
theorem iu.ext(h:iu m w)(x:Ext b w w')(hb:m≠b):iu m w':=by obtain⟨es,clock,hh,r⟩:=h;exact⟨es,clock,x.bH hh hb vF,r⟩
end
end
section
variable{s b:ByteArray}
variable{k a:Nat}
theorem yg(c:UInt8)(w:Wd) :
  Calls prog 110 #[I .u8 c.toNat] w λe w'=>e=υ (U (Sp.isLet c))/\w'=w:=by
 go_enter func110,ntmps110
 go_wp2
 all_goals
  go_ret;exact⟨bt (by unfold Sp.isLet;rw[Bool.eq_iff_iff];simp;omega),rfl⟩
theorem Ap(c:UInt8)(w:Wd) :
  Calls prog 111 #[I .u8 c.toNat] w λe w'=>e=υ (U (bC c))/\w'=w:=by
 go_enter func111,ntmps111
 go_wp2
 all_goals
  go_ret;exact⟨bt (by unfold bC;rw[Bool.eq_iff_iff];simp;omega),rfl⟩
def dp(p:UInt8->Bool)(l:Sp.Bs)(k:Nat):Prop:=∀j c,j<k->l[j]?=Y c->p c=true
theorem dp.succ{p:UInt8->Bool}(h:dp p s.data.toList k)(hk:k<s.size)(hp:p s[k]=true):dp p s.data.toList (k+1):=by
 intro j c hj hc;by_cases e:j=k
 .subst e
  have:s.data.toList[j]?=Y s[j]:=by rw[Ý];exact Ü hk
  rw[this]at hc;cases hc;exact hp
 .exact h j c À hc
theorem jD(p:UInt8->Bool):∀(l:Sp.Bs) (k:Nat),k<=l.length->dp p l k->(∀c,l[k]?=Y c->p c=false)->bT p l=k
 |[],k,hk,_,_=>by simp at hk;subst hk;rfl
 |c::r,0,_,_,hs=>by rw[eJ,hs c Ä];rfl
 |c::r,k+1,hk,hm,hs=>by rw[eJ,hm 0 c À Ä];have:=jD p r k (by simpa using hk) (λj d hj hd=>hm (j+1) d À (by simpa using hd)) (λd hd=>hs d (by simpa using hd));simp[this]
theorem byte_at(s:ByteArray)(k:Nat)(h:k<s.size):s.data.toList[k]?=Y s[k]:=by rw[Ý];exact Ü h
theorem qC(s:ByteArray)(k:Nat)(h:¬k<s.size):s.data.toList[k]?=M:=by rw[Ý];exact ã (by have:s.data.size=s.size:=rfl;omega)
theorem gm(s:ByteArray)(w:Wd)(hs:s.size<=400) :
  Calls prog 109 #[χ s,.func (Fn.func 110) #[] #[]] w λe w'=>e=υ (I O (bT Sp.isLet s.data.toList))/\w'=w:=by
 go_enter func109,ntmps109
 go_wp2
 go_loop [5] (λn=>∃k:Nat,k<=s.size/\Hid (dp Sp.isLet s.data.toList k)/\n=I O k) (λi=>s.size-(intOf i).toNat)
 case atStart=>exact⟨0,Ì,λ_ _ h=>absurd h (Nat.not_lt_zero _),rfl⟩
 case round=>
  obtain⟨k,hk,hm,rfl⟩:=hrel;by_cases df:k<s.size
  .go_wp2_with fail
   refine(yg s[k] _).mono ?_;rintro e w'⟨rfl,rfl⟩;by_cases Uk:Sp.isLet s[k]=true
   .have tZ:Hid (dp Sp.isLet s.data.toList (k+1)):=hm.succ df Uk
    go_wp2
    go_round
    case rel=>exact⟨k+1,À,tZ,by go_num⟩
    case measure=>simp[intOf];omega
   .have WR:Sp.isLet s[k]=false:=by simpa using Uk
    have hr:Hid (bT Sp.isLet s.data.toList=k):=jD _ _ _ (by simpa using hk) hm.out (λc hc=>by rw[byte_at s k df]at hc;cases hc;exact WR)
    go_wp2
    go_ret;exact⟨dc (by rw[hr.out]),rfl⟩
  .have hr:Hid (bT Sp.isLet s.data.toList=k):=jD _ _ _ (by simpa using hk) hm.out (λc hc=>by rw[qC s k df]at hc;cases hc)
   go_wp2
   go_ret;exact⟨dc (by rw[hr.out]),rfl⟩
theorem jB(s:ByteArray)(w:Wd)(hs:s.size<=400) :
  Calls prog 109 #[χ s,.func (Fn.func 111) #[] #[]] w λe w'=>e=υ (I O (bT bC s.data.toList))/\w'=w:=by
 go_enter func109,ntmps109
 go_wp2
 go_loop [5] (λn=>∃k:Nat,k<=s.size/\Hid (dp bC s.data.toList k)/\n=I O k) (λi=>s.size-(intOf i).toNat)
 case atStart=>exact⟨0,Ì,λ_ _ h=>absurd h (Nat.not_lt_zero _),rfl⟩
 case round=>
  obtain⟨k,hk,hm,rfl⟩:=hrel;by_cases df:k<s.size
  .go_wp2_with fail
   refine(Ap s[k] _).mono ?_;rintro e w'⟨rfl,rfl⟩;by_cases Uk:bC s[k]=true
   .have tZ:Hid (dp bC s.data.toList (k+1)):=hm.succ df Uk
    go_wp2
    go_round
    case rel=>exact⟨k+1,À,tZ,by go_num⟩
    case measure=>simp[intOf];omega
   .have WR:bC s[k]=false:=by simpa using Uk
    have hr:Hid (bT bC s.data.toList=k):=jD _ _ _ (by simpa using hk) hm.out (λc hc=>by rw[byte_at s k df]at hc;cases hc;exact WR)
    go_wp2
    go_ret;exact⟨dc (by rw[hr.out]),rfl⟩
  .have hr:Hid (bT bC s.data.toList=k):=jD _ _ _ (by simpa using hk) hm.out (λc hc=>by rw[qC s k df]at hc;cases hc)
   go_wp2
   go_ret;exact⟨dc (by rw[hr.out]),rfl⟩
theorem xM(t:ByteArray)(c:UInt8)(w:Wd)(h:c∈t.data.toList) :
  Calls prog 156 #[χ t,I .u8 c.toNat] w λe w'=>∃n:Nat,e=υ (I O n)/\w'=w:=by
 refine(strings_IndexByte t c.toNat w).mono ?_;rintro e w'⟨rfl,rfl⟩;have hc:((c.toNat:Int)).toNat.toUInt8=c:=Ä;have:=Lib.contains_iff_indexByte t.data.toList c;rw[Ċ.2 h]at this;have h0:0<=Lib.indexByte t.data.toList c:=by simpa using this.symm
 exact⟨(Lib.indexByte t.data.toList c).toNat,by rw[hc,Int.toNat_of_nonneg h0],rfl⟩
theorem yo(t:ByteArray)(c:UInt8)(w:Wd)(h:c ∉ t.data.toList) :
  Calls prog 156 #[χ t,I .u8 c.toNat] w λe w'=>e=υ (I O (-1))/\w'=w:=by
 refine(strings_IndexByte t c.toNat w).mono ?_;rintro e w'⟨rfl,rfl⟩;have hc:((c.toNat:Int)).toNat.toUInt8=c:=Ä;have:=Lib.contains_iff_indexByte t.data.toList c;have hn:t.data.toList.contains c=false:=by
  cases hh:t.data.toList.contains c
  .rfl
  .exact absurd (Ċ.1 hh) h
 rw[hn]at this;have h0:¬0<=Lib.indexByte t.data.toList c:=by simpa using this.symm
 have h1:=Lib.indexByte_ge t.data.toList c;exact⟨dc (by rw[hc];omega),rfl⟩
theorem Ez(s:ByteArray)(h0:0<s.size)(h1:¬1<s.size):bM s.data.toList=if s[0]∈qU then 1 else 0:=by
 have e:s.data.toList=[s[0]]:=by
  apply List.ext_getElem?;intro i
  match i with
  |0=>rw[byte_at s 0 h0];rfl
  |i+1=>rw[qC s (i+1) À];rfl
 rw[e,kt];simp
theorem Df(s:ByteArray)(h1:1<s.size):bM s.data.toList=if s[1].toNat=61/\s[0]∈wR then 2 else if s[0]∈qU then 1 else 0:=by
 obtain⟨c,r,e⟩:∃c r,s.data.toList=c::r:=by
  cases h:s.data.toList with
  |nil=>have:=byte_at s 0 À;rw[h]at this;cases this
  |cons c r=>exact⟨c,r,rfl⟩
 have h0':=byte_at s 0 À;have o8:=byte_at s 1 h1;rw[e]at h0' o8⊢;simp at h0' o8;have e1:s[1].toNat=61↔s[1]=61:=⟨λh=>ç.1 h,λh=>by rw[h];rfl⟩;rw[kt,List.head?_eq_getElem?,o8,h0'];simp only[Option.some.injEq,e1]
theorem pL(s:ByteArray)(w:Wd)(h0:0<s.size)(hs:s.size<=400) :
  Calls prog 112 #[χ s] w λe w'=>e=υ (I O (bM s.data.toList))/\w'=w:=by
 by_cases h1:1<s.size
 .have hf:Hid (bM s.data.toList=if s[1].toNat=61/\s[0]∈wR then 2 else if s[0]∈qU then 1 else 0):=Df s h1
  by_cases h2:s[1].toNat=61
  .by_cases h3:s[0]∈wR
   .have hr:Hid (bM s.data.toList=2):=by unfold Hid;rw[hf.out,Á ⟨h2,h3⟩]
    have H3:=h3;clear hf h3;go_enter func112,ntmps112;go_wp2_with fail;refine(xM _ _ _ H3).mono ?_;rintro e w'⟨n,rfl,rfl⟩;go_wp2_with fail;go_ret;exact⟨dc (by rw[hr.out];rfl),rfl⟩
   .by_cases h4:s[0]∈qU
    .have hr:Hid (bM s.data.toList=1):=by unfold Hid;rw[hf.out,Â (λh=>h3 h.2),Á h4]
     have H3:=h3;have H4:=h4;clear hf h3 h4;go_enter func112,ntmps112;go_wp2_with fail;refine(yo _ _ _ H3).mono ?_;rintro e w'⟨rfl,rfl⟩;go_wp2_with fail;refine(xM _ _ _ H4).mono ?_;rintro e w'⟨n,rfl,rfl⟩;go_wp2_with fail;go_ret;exact⟨dc (by rw[hr.out];rfl),rfl⟩
    .have hr:Hid (bM s.data.toList=0):=by unfold Hid;rw[hf.out,Â (λh=>h3 h.2),Â h4]
     have H3:=h3;have H4:=h4;clear hf h3 h4;go_enter func112,ntmps112;go_wp2_with fail;refine(yo _ _ _ H3).mono ?_;rintro e w'⟨rfl,rfl⟩;go_wp2_with fail;refine(yo _ _ _ H4).mono ?_;rintro e w'⟨rfl,rfl⟩;go_wp2_with fail;go_ret;exact⟨dc (by rw[hr.out];rfl),rfl⟩
  .have Gq:¬((s[1].toNat:Int)=61):=À
   by_cases h4:s[0]∈qU
   .have hr:Hid (bM s.data.toList=1):=by unfold Hid;rw[hf.out,Â (λh=>h2 h.1),Á h4]
    have H4:=h4;clear hf h4 h2;go_enter func112,ntmps112;go_wp2_with fail;refine(xM _ _ _ H4).mono ?_;rintro e w'⟨n,rfl,rfl⟩;go_wp2_with fail;go_ret;exact⟨dc (by rw[hr.out];rfl),rfl⟩
   .have hr:Hid (bM s.data.toList=0):=by unfold Hid;rw[hf.out,Â (λh=>h2 h.1),Â h4]
    have H4:=h4;clear hf h4 h2;go_enter func112,ntmps112;go_wp2_with fail;refine(yo _ _ _ H4).mono ?_;rintro e w'⟨rfl,rfl⟩;go_wp2_with fail;go_ret;exact⟨dc (by rw[hr.out];rfl),rfl⟩
 .have hf:Hid (bM s.data.toList=if s[0]∈qU then 1 else 0):=Ez s h0 h1
  by_cases h4:s[0]∈qU
  .have hr:Hid (bM s.data.toList=1):=by unfold Hid;rw[hf.out,Á h4]
   have H4:=h4;clear hf h4;go_enter func112,ntmps112;go_wp2_with fail;refine(xM _ _ _ H4).mono ?_;rintro e w'⟨n,rfl,rfl⟩;go_wp2_with fail;go_ret;exact⟨dc (by rw[hr.out];rfl),rfl⟩
  .have hr:Hid (bM s.data.toList=0):=by unfold Hid;rw[hf.out,Â h4]
   have H4:=h4;clear hf h4;go_enter func112,ntmps112;go_wp2_with fail;refine(yo _ _ _ H4).mono ?_;rintro e w'⟨rfl,rfl⟩;go_wp2_with fail;go_ret;exact⟨dc (by rw[hr.out];rfl),rfl⟩
theorem rB(s:ByteArray)(w:Wd)(hs:s.size<=400) :
  Calls prog 73 #[χ s] w λe w'=>e=υ (φ #[I O (aC s.data.toList),I O (bh s.data.toList)])/\w'=w:=by
 cases hl:s.data.toList with
 |nil=>
  have hb:s.toList.isEmpty=true:=by rw[ByteArray.toList_eq,hl];rfl
  have HL:=hid hl;clear hl;go_enter func73,ntmps73;go_wp2_with fail
  go_ret2
  exact⟨rfl,rfl⟩
 |cons c r=>
  have hb:s.toList.isEmpty=false:=by rw[ByteArray.toList_eq,hl];rfl
  have h0:0<s.size:=by
   have:s.data.toList.length=s.size:=Ä;rw[hl]at this;simp at this;omega
  have e1:bT Sp.isLet s.data.toList=if Sp.isLet c then bT Sp.isLet r+1 else 0:=by rw[hl,eJ]
  have e2:bT bC s.data.toList=if bC c then bT bC r+1 else 0:=by rw[hl,eJ]
  by_cases hc:Sp.isLet c=true
  .have hk:Hid (aC (c::r)=2):=by unfold Hid;rw[cj,Á hc]
   have hn:Hid (bh (c::r)=bT Sp.isLet s.data.toList):=by unfold Hid;rw[eN,Á hc,hl]
   have hp:(0:Int)<(bT Sp.isLet s.data.toList:Nat):=by rw[e1,Á hc];omega
   clear e1 e2 hl hc;go_enter func73,ntmps73;go_wp2_with fail;refine(gm s _ hs).mono ?_;rintro e w'⟨rfl,rfl⟩;go_wp2_with fail
   go_ret2
   exact⟨by rw[hk.out,hn.out];rfl,rfl⟩
  .have hp:((bT Sp.isLet s.data.toList:Nat):Int)=0:=by rw[e1,Â hc];rfl
   have Hp:=hid hp;by_cases hd:bC c=true
   .have hk:Hid (aC (c::r)=3):=by unfold Hid;rw[cj,Â hc,Á hd]
    have hn:Hid (bh (c::r)=bT bC s.data.toList):=by unfold Hid;rw[eN,Â hc,Á hd,hl]
    have tY:(0:Int)<(bT bC s.data.toList:Nat):=by rw[e2,Á hd];omega
    clear e1 e2 hl hc hd hp;go_enter func73,ntmps73;go_wp2_with fail;refine(gm s _ hs).mono ?_;rintro e w'⟨rfl,rfl⟩;rw[Hp.out];go_wp2_with fail;refine(jB s _ hs).mono ?_;rintro e w'⟨rfl,rfl⟩;go_wp2_with fail
    go_ret2
    exact⟨by rw[hk.out,hn.out];rfl,rfl⟩
   .have tY:((bT bC s.data.toList:Nat):Int)=0:=by rw[e2,Â hd];rfl
    have Hp2:=hid tY;have hn:Hid (bh (c::r)=bM s.data.toList):=by unfold Hid;rw[eN,Â hc,Â hd,hl]
    by_cases pz:0<bM s.data.toList
    .have hk:Hid (aC (c::r)=4):=by unfold Hid;rw[cj,Â hc,Â hd,Á (by rw[<-hl];exact pz)]
     have DB:(0:Int)<(bM s.data.toList:Nat):=À;clear e1 e2 hl hc hd hp tY pz;go_enter func73,ntmps73;go_wp2_with fail;refine(gm s _ hs).mono ?_;rintro e w'⟨rfl,rfl⟩;rw[Hp.out];go_wp2_with fail;refine(jB s _ hs).mono ?_;rintro e w'⟨rfl,rfl⟩;rw[Hp2.out];go_wp2_with fail;refine(pL s _ h0 hs).mono ?_;rintro e w'⟨rfl,rfl⟩;go_wp2_with fail
     go_ret2
     exact⟨by rw[hk.out,hn.out];rfl,rfl⟩
    .have hk:Hid (aC (c::r)=0):=by unfold Hid;rw[cj,Â hc,Â hd,Â (by rw[<-hl];exact pz)]
     have Hp3:Hid (((bM s.data.toList:Nat):Int)=0):=by unfold Hid;omega
     clear e1 e2 hl hc hd hp tY pz;go_enter func73,ntmps73;go_wp2_with fail;refine(gm s _ hs).mono ?_;rintro e w'⟨rfl,rfl⟩;rw[Hp.out];go_wp2_with fail;refine(jB s _ hs).mono ?_;rintro e w'⟨rfl,rfl⟩;rw[Hp2.out];go_wp2_with fail;refine(pL s _ h0 hs).mono ?_;rintro e w'⟨rfl,rfl⟩;rw[Hp3.out];go_wp2_with fail
     go_ret2
     exact⟨by rw[hk.out,hn.out,Hp3.out];rfl,rfl⟩
theorem kT(c:UInt8):ov c=true↔((c.toNat:Int)=32∨(c.toNat:Int)=10):=by unfold ov;rw[Bool.or_eq_true,beq_iff_eq,beq_iff_eq,<-ç,<-ç];show c.toNat=32∨c.toNat=10↔_;omega
def j8(l:Sp.Bs)(a k:Nat):Prop:=Sp.skip (l.drop a)=Sp.skip (l.drop k)
theorem j8.succ(h:j8 s.data.toList a k)(hk:k<s.size)(hb:ov s[k]=true):j8 s.data.toList a (k+1):=by
 unfold j8 at*;rw[h];have:s.data.toList.drop k=s[k]::s.data.toList.drop (k+1):=by rw[ë (by simpa using hk)];rfl
 rw[this];unfold Sp.skip;rw[List.dropWhile_cons,Á hb]
theorem j8.stop(h:j8 s.data.toList a k)(hb:∀hk:k<s.size,ov s[k]=false):Sp.skip (s.data.toList.drop a)=s.data.toList.drop k:=by
 rw[h];by_cases hk:k<s.size
 .have:s.data.toList.drop k=s[k]::s.data.toList.drop (k+1):=by
   rw[ë (by simpa using hk)];rfl
  rw[this];unfold Sp.skip;rw[List.dropWhile_cons,Â (by rw[hb hk];simp)]
 .rw[ê (by simpa using hk)];rfl
def om(s:ByteArray)(l:Sp.Bs):Array Value:=#[I O ((s.size-l.length:Nat):Int),I O (aC l),χ ⟨(Sp.tok l).toArray⟩]
theorem Ln{a:ByteArray}(h:a.data.toList=b.data.toList):a=b:=by
 cases a;cases b;simp at h;simp[h]
theorem Be(s:ByteArray)(k:Nat)(hk:k<=s.size):om s (s.data.toList.drop k)=#[I O k,I O (aC (s.data.toList.drop k)),χ (s.extract k (k+bh (s.data.toList.drop k)))]:=by
 unfold om;have h1:s.size-(s.data.toList.drop k).length=k:=by
  rw[List.length_drop];have:s.data.toList.length=s.size:=Ä;omega
 have h2:(⟨(Sp.tok (s.data.toList.drop k)).toArray⟩:ByteArray)=s.extract k (k+bh (s.data.toList.drop k)):=by apply Ln;rw[Lib.extract_data];simp[Sp.tok]
 rw[h1,h2]
theorem CD(s:ByteArray)(k:Nat):(s.extract k s.size).data.toList=s.data.toList.drop k:=by rw[Lib.extract_data];apply List.take_of_length_le;simp
theorem vN(s:ByteArray)(k:Nat)(hk:k<=s.size):k+bh (s.data.toList.drop k)<=s.size:=by
 have:=fY (s.data.toList.drop k);rw[List.length_drop]at this;have h:s.data.toList.length=s.size:=Ä;omega
theorem zF(s:ByteArray)(a:Nat)(w:Wd)(ha:a<=s.size)(hs:s.size<=400) :
  Calls prog 38 #[χ s,I O a] w λe w'=>e=υ (J (om s (Sp.skip (s.data.toList.drop a))))/\ω w w':=by
 go_enter func38,ntmps38
 go_wp2
 go_loop [1] (λn=>∃k:Nat,k<=s.size/\Hid (j8 s.data.toList a k)/\n=I O k) (λi=>s.size-(intOf i).toNat)
 case atStart=>exact⟨a,ha,rfl,rfl⟩
 case round=>
  obtain⟨k,hk,hm,rfl⟩:=hrel;have hx:Hid ((s.extract k s.size).data.toList=s.data.toList.drop k):=CD s k;have hv:Hid (om s (s.data.toList.drop k)=#[I O k,I O (aC (s.data.toList.drop k)),χ (s.extract k (k+bh (s.data.toList.drop k)))]):=Be s k hk;have jm:=vN s k hk;have ea:(s.extract k s.size).size<=400:=by simp;omega
  have xd:=hid ea;clear ea;by_cases df:k<s.size
  .by_cases MS:((s[k].toNat:Int)=32)
   .have tZ:Hid (j8 s.data.toList a (k+1)):=hm.succ df ((kT _).2 (.inl MS))
    clear jm;go_wp2_with fail;exact⟨⟨k+1,À,tZ,by go_num⟩,by simp[intOf];omega⟩
   .by_cases gW:((s[k].toNat:Int)=10)
    .have tZ:Hid (j8 s.data.toList a (k+1)):=hm.succ df ((kT _).2 (.inr gW))
     clear jm;go_wp2_with fail;exact⟨⟨k+1,À,tZ,by go_num⟩,by simp[intOf];omega⟩
    .have im:Hid (Sp.skip (s.data.toList.drop a)=s.data.toList.drop k):=hm.stop (λ_=>by
      cases hb:ov s[k]
      .rfl
      .exact absurd ((kT _).1 hb) (λh=>h.elim MS gW))
     have abj:((s[k].toNat:Int)==32)=false:=by simpa using MS
     have aa8:((s[k].toNat:Int)==10)=false:=by simpa using gW
     have aW:Hid (om s (Sp.skip (s.data.toList.drop a))=#[I O k,I O (aC (s.data.toList.drop k)),χ (s.extract k (k+bh (s.data.toList.drop k)))]):=by unfold Hid;rw[im.out,hv.out]
     clear im hv hm;go_wp2_with fail;refine(rB _ _ xd.out).mono ?_;rintro e w'⟨rfl,rfl⟩;rw[hx.out];generalize bh (s.data.toList.drop k)=m at*;generalize aC (s.data.toList.drop k)=kd at*;go_wp2_with fail;refine Ç (v:=J #[I O k,I O kd,χ (s.extract k (k+m))]) (by simp[results,results38,go_sem]) rfl ⟨by rw[aW.out],?_⟩;exact(Å).alloc È _
  .have im:Hid (Sp.skip (s.data.toList.drop a)=s.data.toList.drop k):=hm.stop (λh=>absurd h df)
   have aW:Hid (om s (Sp.skip (s.data.toList.drop a))=#[I O k,I O (aC (s.data.toList.drop k)),χ (s.extract k (k+bh (s.data.toList.drop k)))]):=by unfold Hid;rw[im.out,hv.out]
   clear im hv hm;go_wp2_with fail;refine(rB _ _ xd.out).mono ?_;rintro e w'⟨rfl,rfl⟩;rw[hx.out];generalize bh (s.data.toList.drop k)=m at*;generalize aC (s.data.toList.drop k)=kd at*;go_wp2_with fail;refine Ç (v:=J #[I O k,I O kd,χ (s.extract k (k+m))]) (by simp[results,results38,go_sem]) rfl ⟨by rw[aW.out],?_⟩;exact(Å).alloc È _
end
end Go.Proofs.YtiopfihjmkfdmabGreatDoor
