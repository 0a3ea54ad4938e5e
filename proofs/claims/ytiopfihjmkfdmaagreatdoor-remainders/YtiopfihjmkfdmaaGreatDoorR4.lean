import Derived.Test.YtiopfihjmkfdmaaGreatDoorR2
import Derived.BigQuiet
import Derived.Deep.DeepFit
import Derived.Deep.QuietTactic
import Derived.Deep.RegionWith
import Derived.Defers
import Derived.Lib.IndexAny
import Derived.Maps.AppendAt
import Derived.Maps.OwnSet
import Derived.Recover
import Derived.RegionDies
import Derived.Test.YtiopfihjmkfdmaaGreatDoorRh
namespace Go.Proofs.YtiopfihjmkfdmaaGreatDoor
open Option renaming some→Y,none→M
open Go.Value renaming pointer→ρ,tuple→φ,bool→U,iface→σ,int→I,slice→Z,string→χ,agg→J
open Go.Ending renaming returned→υ
open Go.IntKind renaming i64→O,i16→ψ
open Go.Obj renaming cells→L
open Go.Proofs.Tryz Sp
open Go.RowKit
set_option maxRecDepth 100000
set_option maxHeartbeats 16000000
theorem ED(p q:Addr)(w:Wd) :
  CallsD prog 54 #[ρ (Y p),ρ (Y q)] .returning w fun e u' w'=>e=υ (φ #[])/\u'=.returning/\w'=w:=by
 refine callsD_of_wpS func54 rfl fun c₀ cs hu=>?_
 apply wpS_seq;apply wpS_region;simp[wpOpsS,go_sem,recoverD,hu,ntmps54,Exit.thenS];refine wpS_of_wp ?_;go_wp2_with fail;cases c₀
 simp_all [bodyPostS,results,results54]
theorem A9(a:Addr)(w:Wd):(Instr.typeAssert (σ 90 (ρ (Y a))) 20 90 true).run prog w=.ok (φ #[ρ (Y a),U true]) w:=by kernel_rfl
theorem uL(P Q:Nat)(a:Addr)(w:Wd)(v0 v1 v3 v4 v2:Value)(hp:w.cell? ⟨P,0,M⟩=Y v0)(rY:w.cell? ⟨P,1,M⟩=Y v1)(sk:w.cell? ⟨P,2,M⟩=Y v3)(BA:w.cell? ⟨P,3,M⟩=Y v4)(fp:w.frozen? ⟨P,0,M⟩=false)(fp1:w.frozen? ⟨P,1,M⟩=false)(fp2:w.frozen? ⟨P,2,M⟩=false)(fp3:w.frozen? ⟨P,3,M⟩=false)(hq:w.cell? ⟨Q,0,M⟩=Y v2)(fq:w.frozen? ⟨Q,0,M⟩=false)(J9:P≠Q) :
  CallsD prog 54 #[ρ (Y ⟨P,0,M⟩),ρ (Y ⟨Q,0,M⟩)] (.panicking [{ v:=σ 90 (ρ (Y a)),recovered:=false }]) w fun e u' w' =>
   e=υ (φ #[])/\u'=.panicking [{ v:=σ 90 (ρ (Y a)),recovered:=true }]/\w'=((((w.setCell ⟨P,0,M⟩ (Z M 0 0)).setCell ⟨P,1,M⟩ (I O 0)).setCell ⟨P,2,M⟩ (I O 0)).setCell ⟨P,3,M⟩ (Z M 0 0)).setCell ⟨Q,0,M⟩ (σ 90 (ρ (Y a))):=by
 have XJ:=A9 a;have vp:((((w.setCell ⟨P,0,M⟩ (Z M 0 0)).setCell ⟨P,1,M⟩ (I O 0)).setCell ⟨P,2,M⟩ (I O 0)).setCell ⟨P,3,M⟩ (Z M 0 0)).cell? ⟨Q,0,M⟩=Y v2:=by rw[World.cell?_of_block (w:=w) (by rw[Below.heap_setCell _ _ _ _ (fun e=>J9 e.symm),Below.heap_setCell _ _ _ _ (fun e=>J9 e.symm),Below.heap_setCell _ _ _ _ (fun e=>J9 e.symm),Below.heap_setCell _ _ _ _ (fun e=>J9 e.symm)])];exact hq
 have fq2:((((w.setCell ⟨P,0,M⟩ (Z M 0 0)).setCell ⟨P,1,M⟩ (I O 0)).setCell ⟨P,2,M⟩ (I O 0)).setCell ⟨P,3,M⟩ (Z M 0 0)).frozen? ⟨Q,0,M⟩=false:=by rw[World.frozen?_of_block (w:=w) (by rw[Below.heap_setCell _ _ _ _ (fun e=>J9 e.symm),Below.heap_setCell _ _ _ _ (fun e=>J9 e.symm),Below.heap_setCell _ _ _ _ (fun e=>J9 e.symm),Below.heap_setCell _ _ _ _ (fun e=>J9 e.symm)])];exact fq
 refine callsD_of_wpS func54 rfl fun c₀ cs hu=>?_
 apply wpS_seq;apply wpS_region;simp[wpOpsS,go_sem,recoverD,hu,ntmps54,Exit.thenS];refine wpS_of_wp ?_;change Code.wp _ _ _ { tmps:=#[ρ (Y ⟨P,0,M⟩),ρ (Y ⟨Q,0,M⟩),undef,undef,undef,σ 90 (ρ (Y a)),undef,undef,undef,undef,undef,undef,undef,undef],defers:=[] } _;go_wp2_with fail;simp[bodyPostS,results,results54]
namespace Sp
section
variable{t l l1:Bs}
variable{o k lv:Nat}
variable{A:eR}
theorem cd(h:take t l=.ok l1):tok l=t/\l1=next l:=by
 unfold take at h;split at h
 ·cases h;exact⟨by assumption,rfl⟩
 ·cases h
theorem cN(h:enter t o l=.ok l1):tok l=t/\o≠12/\l1=next l:=by
 unfold enter at h;split at h
 ·split at h
  ·cases h
  ·cases h;exact⟨by assumption,by assumption,rfl⟩
 ·cases h
theorem ir(h:dG l=.ok (k,l1)):aQ l=Y k/\l1=next l:=by
 unfold dG at h;split at h
 ·rename_i hk;cases h;exact⟨hk,rfl⟩
 ·cases h
theorem qG{part:Bs->R A.S}(hp:∀l x l1,part l=.ok (x,l1)->l1.length<=l.length) :
  ∀(m:Nat) (x:A.S) (l:Bs) (y:A.S) (l1:Bs),bH A lv part m x l=.ok (y,l1)->l1.length<=l.length
 | 0,x,l,y,l1,h=>by unfold bH at h;cases h;exact Nat.le_refl _
 | m+1,x,l,y,l1,h=>by
  unfold bH at h;split at h
  ·split at h
   ·split at h
    ·rename_i y' l' hr
     have h1:=hp _ _ _ hr;have h2:=qG hp m _ _ _ _ h;have h3:=bZ l;omega
    ·cases h
   ·cases h;exact Nat.le_refl _
  ·cases h;exact Nat.le_refl _
theorem sC{part:Bs->R A.S}(hp:∀l x l1,part l=.ok (x,l1)->l1.length<=l.length)(l:Bs)(y:A.S)(l1:Bs)(h:bP A lv part l=.ok (y,l1)):l1.length<=l.length:=by
 unfold bP at h;split at h
 ·rename_i x l' hr
  have h1:=hp _ _ _ hr;have h2:=qG hp _ _ _ _ _ h;omega
 ·cases h
theorem CV{part:Bs->R A.S}(hp:∀l x l1,part l=.ok (x,l1)->l1.length<l.length)(l:Bs)(y:A.S)(l1:Bs)(h:bP A lv part l=.ok (y,l1)):l1.length<l.length:=by
 unfold bP at h;split at h
 ·rename_i x l' hr
  have h1:=hp _ _ _ hr;have h2:=qG (fun l x l1 h=>Nat.le_of_lt (hp l x l1 h)) _ _ _ _ _ h;omega
 ·cases h
theorem GB{u:Bs->R A.S}(hp:∀l x l1,u l=.ok (x,l1)->l1.length<l.length)(l:Bs)(y:A.S)(l1:Bs)(h:og A u l=.ok (y,l1)):l1.length<l.length :=
 CV (CV hp) l y l1 h
theorem ff(h:aQ l=Y k):aC l=2:=by
 unfold aQ at h;split at h
 ·split at h
  ·rename_i hc;exact hc.1
  ·cases h
 ·cases h
theorem iK:∀(n o:Nat) (l:Bs) (x:A.S) (l1:Bs),bk A n o l=.ok (x,l1)->l1.length<l.length
 | 0,o,l,x,l1,h=>by unfold bk bad at h;cases h
 | n+1,o,l,x,l1,h=>by
  unfold bk at h;split at h
  ·rename_i hk
   split at h
   ·cases h;exact gm (dP (.inr (.inl hk)))
   ·cases h
  ·split at h
   ·split at h
    ·rename_i k l2 hr
     cases h
     obtain⟨hk,rfl⟩:=ir hr;exact gm (dP (.inl (ff hk)))
    ·cases h
   ·split at h
    ·split at h
     ·rename_i l2 hr
      obtain⟨ht,_,rfl⟩:=cN hr;have:=aG ht (by simp);split at h
      ·rename_i x2 l3 od
       have:=iK n _ _ _ _ od;cases h;omega
      ·cases h
     ·cases h
    ·split at h
     ·rename_i l2 hr
      obtain⟨ht,_,rfl⟩:=cN hr;have:=aG ht (by simp);split at h
      ·rename_i x2 l3 od
       have:=GB (iK n (o+1)) _ _ _ od;split at h
       ·rename_i l4 Gl
        obtain⟨_,rfl⟩:=cd Gl;have:=bZ l3;cases h;omega
       ·cases h
      ·cases h
     ·cases h
end
end Sp
section
open Go.RowKit Go.WideMaps Go.Maps
structure Laid(w:Wd):Prop where
 size:11<=w.heap.size
 ops:∀k,k<5->w.cell? ⟨1,k,M⟩=Y (χ ⟨(bo k).toArray⟩)
 rels:∀k,k<6->w.cell? ⟨2,k,M⟩=Y (χ ⟨(aL k).toArray⟩)
 errS:∃tp p,w.cell? ⟨9,0,M⟩=Y (σ tp p)
 errR:∃tp p,w.cell? ⟨10,0,M⟩=Y (σ tp p)
 pow:Lib.TabIs prog w "internal/strconv.uint64pow10" .u64 Lib.pow10Tab
theorem AT(k:Nat)(hk:k<5)(w:Wd)(h:w.cell? ⟨1,k,M⟩=Y (χ ⟨(bo k).toArray⟩)) :
  Calls prog 87 #[I O k] w fun e w'=>e=υ (χ ⟨(bo k).toArray⟩)/\w'=w:=by
 generalize (⟨(bo k).toArray⟩:ByteArray)=t at *;go_enter func87,ntmps87;go_wp2_with fail;go_ret;exact⟨rfl,rfl⟩
theorem yv(k:Nat)(hk:k<6)(w:Wd)(h:w.cell? ⟨2,k,M⟩=Y (χ ⟨(aL k).toArray⟩)) :
  Calls prog 88 #[I O k] w fun e w'=>e=υ (χ ⟨(aL k).toArray⟩)/\w'=w:=by
 generalize (⟨(aL k).toArray⟩:ByteArray)=t at *;go_enter func88,ntmps88;go_wp2_with fail;go_ret;exact⟨rfl,rfl⟩
theorem pQ(k:Nat)(hk:k<5)(w:Wd) :
  Calls prog 240 #[I O k] w fun e w'=>e=υ (U (decide (3<=k)))/\w'=w:=by
 have uG:k=3∨k=4∨(k<3/\¬ ((k:Int)=3)/\¬ ((k:Int)=4)):=by omega
 rcases uG with rfl | rfl | ⟨h2,h0,h1⟩
 ·go_enter func240,ntmps240
  go_wp2_with fail;go_ret;exact⟨rfl,rfl⟩
 ·go_enter func240,ntmps240
  go_wp2_with fail;go_ret;exact⟨rfl,rfl⟩
 ·have hl:Hid (decide (3<=k)=false):=by unfold Hid;simp;omega
  clear h2 hk;go_enter func240,ntmps240;go_wp2_with fail;go_ret;refine⟨eK ?_,rfl⟩;rw[hl.out];simp[h0,h1]
theorem iV(k:Nat)(hk:k<5)(w:Wd) :
  Calls prog 172 #[I O k] w fun e w'=>e=υ (I O (cK k))/\w'=w:=by
 have uG:k=0∨k=1∨(2<=k/\¬ ((k:Int)=0)/\¬ ((k:Int)=1)):=by omega
 rcases uG with rfl | rfl | ⟨h2,h0,h1⟩
 ·go_enter func172,ntmps172
  go_wp2_with fail;go_ret;exact⟨rfl,rfl⟩
 ·go_enter func172,ntmps172
  go_wp2_with fail;go_ret;exact⟨rfl,rfl⟩
 ·have hl:Hid (cK k=1):=by unfold Hid cK;rw[if_neg (by omega)]
  have b0:((k:Int) == 0)=false:=by simp;omega
  have b1:((k:Int) == 1)=false:=by simp;omega
  go_enter func172,ntmps172;go_wp2_with fail;go_ret;exact⟨dk (by rw[hl.out];rfl),rfl⟩
theorem PC:Keyed prog 9:=string_keyed underlying9
theorem Sc(w:Wd):(zeroValue 229).run prog w=.ok (I O 0) w:=by kernel_rfl
theorem PO(w:Wd):(zeroValue 230).run prog w=.ok (I O 0) w:=by kernel_rfl
def lH:Nat->DataW Unit
 | 0=>.map []
 | k+1=>(lH k).put (.string (bo k)) (.lit (.int O k))
def eJ:Nat->DataW Unit
 | 0=>.map []
 | k+1=>(eJ k).put (.string (aL k)) (.lit (.int O k))
def jt(m:Nat)(w:Wd):Prop:=w.ownsMap prog 9 (plainElem (H:=Unit) prog 229) m 5 (lH 5)
def gL(m:Nat)(w:Wd):Prop:=w.ownsMap prog 9 (plainElem (H:=Unit) prog 230) m 6 (eJ 6)
theorem Am(t:Sp.Bs)(h:t.length<=400):keyOf prog 9 (.string ⟨t.toArray⟩)=Y (.string t):=by have:=keyOf_string_mk (P:=prog) (s:=⟨t.toArray⟩) underlying9 (by show t.toArray.size<=maxLen;unfold maxLen;simp;omega);simpa using this
theorem E8(k:Nat):(bo k).length<=400:=by unfold bo;split<;>decide
theorem DS(k:Nat):(aL k).length<=400:=by unfold aL;split<;>decide
theorem IY(w:Wd)(hL:Laid w) :
  Calls prog 56 #[] w fun e w'=>e=υ (.map (Y w.heap.size))/\jt w.heap.size w'/\ω w w':=by
 have hmm:=@run_makeMap prog;go_enter func56,ntmps56;go_wp2_with fail
 go_loopw [2] (fun i wr=>∃k:Nat,k<=5/\i=.int O k/\wr.ownsMap prog 9 (plainElem (H:=Unit) prog 229) w.heap.size k (lH k)/\ω w wr)
  (fun i _=>5 - (intOf i).toNat)
 case atStart=>exact⟨0,Nat.zero_le _,rfl,World.ownsMap_made _ _ _ _,(Below.refl _ _).alloc (Nat.le_refl _) _⟩
 case round =>
  obtain⟨k,hk,rfl,ox,eO⟩:=hrel;by_cases cR:k<5
  ·have hc:wr.cell? ⟨1,k,M⟩=Y (.string ⟨(bo k).toArray⟩):=by
    rw[eO.cell (by have:=hL.size;show 1<w.heap.size;omega)];exact hL.ops k cR
   have HC:Hid (wr.cell? ⟨1,k,M⟩=Y (.string ⟨(bo k).toArray⟩)):=hc;clear hc;have hle:(k:Int)<=4:=by omega
   have Tg:=Am (bo k) (E8 k);have Uh:(Lit.int O (k:Int)).wf=true:=by have:=wrap64_wf (k:Int);rwa [IntWalk.wrap64_in _ (by omega)]at this
   go_wp2_with fail;refine(AT k cR _ HC.out).mono ?_;rintro e w'⟨rfl,rfl⟩;go_wp2_with (first
    | (at_mapUpdate;refine wpList_mapUpdate_own _ rfl _ _ _ 141 rfl 9 229 PC underlying141 _ w.heap.size k _ rfl ox (by unfold maxLen;omega) _ _ _ rfl rfl Tg _ [] (plainElem_int underlying229 Uh) ?_)
    | go_in)
   intro w1 sd xN;have R2:=eO.grown xN eO.size (fun j hj=>by cases hj;exact Nat.le_refl _);clear xN ox;go_wp2_with fail;exact⟨⟨k+1,by omega,by go_num,sd,R2⟩,by simp[intOf];omega⟩
  ·have mL:¬ (k:Int)<=4:=by omega
   have e:k=5:=by omega
   subst e;go_wp2_with fail;go_ret;exact⟨rfl,ox,eO⟩
theorem EP(w:Wd)(hL:Laid w) :
  Calls prog 57 #[] w fun e w'=>e=υ (.map (Y w.heap.size))/\gL w.heap.size w'/\ω w w':=by
 have hmm:=@run_makeMap prog;go_enter func57,ntmps57;go_wp2_with fail
 go_loopw [2] (fun i wr=>∃k:Nat,k<=6/\i=.int O k/\wr.ownsMap prog 9 (plainElem (H:=Unit) prog 230) w.heap.size k (eJ k)/\ω w wr)
  (fun i _=>6 - (intOf i).toNat)
 case atStart=>exact⟨0,Nat.zero_le _,rfl,World.ownsMap_made _ _ _ _,(Below.refl _ _).alloc (Nat.le_refl _) _⟩
 case round =>
  obtain⟨k,hk,rfl,ox,eO⟩:=hrel;by_cases cR:k<6
  ·have hc:wr.cell? ⟨2,k,M⟩=Y (.string ⟨(aL k).toArray⟩):=by
    rw[eO.cell (by have:=hL.size;show 2<w.heap.size;omega)];exact hL.rels k cR
   have HC:Hid (wr.cell? ⟨2,k,M⟩=Y (.string ⟨(aL k).toArray⟩)):=hc;clear hc;have hle:(k:Int)<=5:=by omega
   have Tg:=Am (aL k) (DS k);have Uh:(Lit.int O (k:Int)).wf=true:=by have:=wrap64_wf (k:Int);rwa [IntWalk.wrap64_in _ (by omega)]at this
   go_wp2_with fail;refine(yv k cR _ HC.out).mono ?_;rintro e w'⟨rfl,rfl⟩;go_wp2_with (first
    | (at_mapUpdate;refine wpList_mapUpdate_own _ rfl _ _ _ 143 rfl 9 230 PC underlying143 _ w.heap.size k _ rfl ox (by unfold maxLen;omega) _ _ _ rfl rfl Tg _ [] (plainElem_int underlying230 Uh) ?_)
    | go_in)
   intro w1 sd xN;have R2:=eO.grown xN eO.size (fun j hj=>by cases hj;exact Nat.le_refl _);clear xN ox;go_wp2_with fail;exact⟨⟨k+1,by omega,by go_num,sd,R2⟩,by simp[intOf];omega⟩
  ·have mL:¬ (k:Int)<=5:=by omega
   have e:k=6:=by omega
   subst e;go_wp2_with fail;go_ret;exact⟨rfl,ox,eO⟩
end
section
open Go.RowKit Go.WideMaps Go.Maps
section
variable{b m:Nat}
variable{w w':Wd}
theorem iQ:∀k,IsMap (lH k)
 | 0=>isMap_empty
 | k+1=>(iQ k).put _ _
theorem gi:∀k,IsMap (eJ k)
 | 0=>isMap_empty
 | k+1=>(gi k).put _ _
theorem Nw{a b:Sp.Bs}(h:a≠b):(Lit.string a)≠Lit.string b:=fun e=>h (Lit.string.inj e)
theorem eL{D:DataW Unit}(hD:IsMap D)(t:Sp.Bs)(d z:DataW Unit):Maps.has (D.put (.string t) d) (.string t)=true/\(D.put (.string t) d).atKey (.string t) z=d :=
 ⟨has_put_same hD (by simp[WideAt.IsKeyLit]) _,atKey_put_same hD (by simp[WideAt.IsKeyLit]) _ _⟩
theorem aN{D:DataW Unit}(t u:Sp.Bs)(d z:DataW Unit)(h:u≠t):Maps.has (D.put (.string t) d) (.string u)=Maps.has D (.string u)/\(D.put (.string t) d).atKey (.string u) z=D.atKey (.string u) z :=
 ⟨has_put_other (Nw h) _,atKey_put_other (Nw h) _ _⟩
theorem MP(t:Sp.Bs)(z:DataW Unit):Maps.has (lH 5) (.string t)=(ep t).isSome/\(lH 5).atKey (.string t) z=(match ep t with | some k=>.lit (.int O (k:Nat)) | none=>z):=by
 unfold ep;by_cases h0:t=[43]
 ·subst h0
  have e4:=aN (D:=lH 4) (bo 4) [43] (.lit (.int O (4:Nat))) z (by decide);have e3:=aN (D:=lH 3) (bo 3) [43] (.lit (.int O (3:Nat))) z (by decide);have e2:=aN (D:=lH 2) (bo 2) [43] (.lit (.int O (2:Nat))) z (by decide);have e1:=aN (D:=lH 1) (bo 1) [43] (.lit (.int O (1:Nat))) z (by decide);have e0:=eL (iQ 0) [43] (.lit (.int O (0:Nat))) z;exact⟨(e4.1.trans (e3.1.trans (e2.1.trans (e1.1.trans e0.1)))),(e4.2.trans (e3.2.trans (e2.2.trans (e1.2.trans e0.2))))⟩
 by_cases h1:t=[45]
 ·subst h1
  have e4:=aN (D:=lH 4) (bo 4) [45] (.lit (.int O (4:Nat))) z (by decide);have e3:=aN (D:=lH 3) (bo 3) [45] (.lit (.int O (3:Nat))) z (by decide);have e2:=aN (D:=lH 2) (bo 2) [45] (.lit (.int O (2:Nat))) z (by decide);have e1:=eL (iQ 1) [45] (.lit (.int O (1:Nat))) z;exact⟨(e4.1.trans (e3.1.trans (e2.1.trans e1.1))),(e4.2.trans (e3.2.trans (e2.2.trans e1.2)))⟩
 by_cases h2:t=[42]
 ·subst h2
  have e4:=aN (D:=lH 4) (bo 4) [42] (.lit (.int O (4:Nat))) z (by decide);have e3:=aN (D:=lH 3) (bo 3) [42] (.lit (.int O (3:Nat))) z (by decide);have e2:=eL (iQ 2) [42] (.lit (.int O (2:Nat))) z;exact⟨(e4.1.trans (e3.1.trans e2.1)),(e4.2.trans (e3.2.trans e2.2))⟩
 by_cases h3:t=[47]
 ·subst h3
  have e4:=aN (D:=lH 4) (bo 4) [47] (.lit (.int O (4:Nat))) z (by decide);have e3:=eL (iQ 3) [47] (.lit (.int O (3:Nat))) z;exact⟨(e4.1.trans e3.1),(e4.2.trans e3.2)⟩
 by_cases h4:t=[37]
 ·subst h4
  have e4:=eL (iQ 4) [37] (.lit (.int O (4:Nat))) z;exact⟨ e4.1,  e4.2⟩
 have e4:=aN (D:=lH 4) (bo 4) t (.lit (.int O (4:Nat))) z h4;have e3:=aN (D:=lH 3) (bo 3) t (.lit (.int O (3:Nat))) z h3;have e2:=aN (D:=lH 2) (bo 2) t (.lit (.int O (2:Nat))) z h2;have e1:=aN (D:=lH 1) (bo 1) t (.lit (.int O (1:Nat))) z h1;have e0:=aN (D:=lH 0) (bo 0) t (.lit (.int O (0:Nat))) z h0;rw[if_neg h0,if_neg h1,if_neg h2,if_neg h3,if_neg h4];exact⟨(e4.1.trans (e3.1.trans (e2.1.trans (e1.1.trans (e0.1.trans rfl))))),(e4.2.trans (e3.2.trans (e2.2.trans (e1.2.trans (e0.2.trans rfl)))))⟩
theorem IK(t:Sp.Bs)(z:DataW Unit):Maps.has (eJ 6) (.string t)=(ea t).isSome/\(eJ 6).atKey (.string t) z=(match ea t with | some k=>.lit (.int O (k:Nat)) | none=>z):=by
 unfold ea;by_cases h0:t=[60]
 ·subst h0
  have e5:=aN (D:=eJ 5) (aL 5) [60] (.lit (.int O (5:Nat))) z (by decide);have e4:=aN (D:=eJ 4) (aL 4) [60] (.lit (.int O (4:Nat))) z (by decide);have e3:=aN (D:=eJ 3) (aL 3) [60] (.lit (.int O (3:Nat))) z (by decide);have e2:=aN (D:=eJ 2) (aL 2) [60] (.lit (.int O (2:Nat))) z (by decide);have e1:=aN (D:=eJ 1) (aL 1) [60] (.lit (.int O (1:Nat))) z (by decide);have e0:=eL (gi 0) [60] (.lit (.int O (0:Nat))) z;exact⟨(e5.1.trans (e4.1.trans (e3.1.trans (e2.1.trans (e1.1.trans e0.1))))),(e5.2.trans (e4.2.trans (e3.2.trans (e2.2.trans (e1.2.trans e0.2)))))⟩
 by_cases h1:t=[60,61]
 ·subst h1
  have e5:=aN (D:=eJ 5) (aL 5) [60,61] (.lit (.int O (5:Nat))) z (by decide);have e4:=aN (D:=eJ 4) (aL 4) [60,61] (.lit (.int O (4:Nat))) z (by decide);have e3:=aN (D:=eJ 3) (aL 3) [60,61] (.lit (.int O (3:Nat))) z (by decide);have e2:=aN (D:=eJ 2) (aL 2) [60,61] (.lit (.int O (2:Nat))) z (by decide);have e1:=eL (gi 1) [60,61] (.lit (.int O (1:Nat))) z;exact⟨(e5.1.trans (e4.1.trans (e3.1.trans (e2.1.trans e1.1)))),(e5.2.trans (e4.2.trans (e3.2.trans (e2.2.trans e1.2))))⟩
 by_cases h2:t=[61,61]
 ·subst h2
  have e5:=aN (D:=eJ 5) (aL 5) [61,61] (.lit (.int O (5:Nat))) z (by decide);have e4:=aN (D:=eJ 4) (aL 4) [61,61] (.lit (.int O (4:Nat))) z (by decide);have e3:=aN (D:=eJ 3) (aL 3) [61,61] (.lit (.int O (3:Nat))) z (by decide);have e2:=eL (gi 2) [61,61] (.lit (.int O (2:Nat))) z;exact⟨(e5.1.trans (e4.1.trans (e3.1.trans e2.1))),(e5.2.trans (e4.2.trans (e3.2.trans e2.2)))⟩
 by_cases h3:t=[33,61]
 ·subst h3
  have e5:=aN (D:=eJ 5) (aL 5) [33,61] (.lit (.int O (5:Nat))) z (by decide);have e4:=aN (D:=eJ 4) (aL 4) [33,61] (.lit (.int O (4:Nat))) z (by decide);have e3:=eL (gi 3) [33,61] (.lit (.int O (3:Nat))) z;exact⟨(e5.1.trans (e4.1.trans e3.1)),(e5.2.trans (e4.2.trans e3.2))⟩
 by_cases h4:t=[62,61]
 ·subst h4
  have e5:=aN (D:=eJ 5) (aL 5) [62,61] (.lit (.int O (5:Nat))) z (by decide);have e4:=eL (gi 4) [62,61] (.lit (.int O (4:Nat))) z;exact⟨(e5.1.trans e4.1),(e5.2.trans e4.2)⟩
 by_cases h5:t=[62]
 ·subst h5
  have e5:=eL (gi 5) [62] (.lit (.int O (5:Nat))) z;exact⟨ e5.1,  e5.2⟩
 have e5:=aN (D:=eJ 5) (aL 5) t (.lit (.int O (5:Nat))) z h5;have e4:=aN (D:=eJ 4) (aL 4) t (.lit (.int O (4:Nat))) z h4;have e3:=aN (D:=eJ 3) (aL 3) t (.lit (.int O (3:Nat))) z h3;have e2:=aN (D:=eJ 2) (aL 2) t (.lit (.int O (2:Nat))) z h2;have e1:=aN (D:=eJ 1) (aL 1) t (.lit (.int O (1:Nat))) z h1;have e0:=aN (D:=eJ 0) (aL 0) t (.lit (.int O (0:Nat))) z h0;rw[if_neg h0,if_neg h1,if_neg h2,if_neg h3,if_neg h4,if_neg h5];exact⟨(e5.1.trans (e4.1.trans (e3.1.trans (e2.1.trans (e1.1.trans (e0.1.trans rfl)))))),(e5.2.trans (e4.2.trans (e3.2.trans (e2.2.trans (e1.2.trans (e0.2.trans rfl))))))⟩
theorem DD(h:jt m w)(t:Sp.Bs)(ht:t.length<=400) :
  (Instr.lookup 141 (.map (Y m)) (.string ⟨t.toArray⟩) true).run prog w=.ok (.tuple #[.int O (((ep t).getD 0:Nat):Int),.bool (ep t).isSome]) w:=by
 obtain⟨v,ps,NS,hv⟩:=World.ownsMap.look_ok h PC underlying141 (Sc w) (plainElem_int underlying229 (a:=0) (by decide)) (Am t ht);have hw:=MP t (.lit (.int O 0));rw[hw.1]at NS;rw[hw.2]at hv;obtain⟨a,rfl,hc,_⟩:=plainElem_int_inv underlying229 hv;rw[NS];cases ho:ep t with
 | none=>rw[ho]at hc;simp at hc;simp[<-hc.1]
 | some k=>rw[ho]at hc;simp at hc;simp[<-hc.1]
theorem zr(h:gL m w)(t:Sp.Bs)(ht:t.length<=400) :
  (Instr.lookup 143 (.map (Y m)) (.string ⟨t.toArray⟩) true).run prog w=.ok (.tuple #[.int O (((ea t).getD 0:Nat):Int),.bool (ea t).isSome]) w:=by
 obtain⟨v,ps,NS,hv⟩:=World.ownsMap.look_ok h PC underlying143 (PO w) (plainElem_int underlying230 (a:=0) (by decide)) (Am t ht);have hw:=IK t (.lit (.int O 0));rw[hw.1]at NS;rw[hw.2]at hv;obtain⟨a,rfl,hc,_⟩:=plainElem_int_inv underlying230 hv;rw[NS];cases ho:ea t with
 | none=>rw[ho]at hc;simp at hc;simp[<-hc.1]
 | some k=>rw[ho]at hc;simp at hc;simp[<-hc.1]
theorem jt.ext(h:jt m w)(x:Ext b w w')(hb:m≠b):jt m w':=by obtain⟨es,clock,hh,r⟩:=h;exact⟨es,clock,x.bF hh hb tW,r⟩
theorem gL.ext(h:gL m w)(x:Ext b w w')(hb:m≠b):gL m w':=by obtain⟨es,clock,hh,r⟩:=h;exact⟨es,clock,x.bF hh hb tW,r⟩
end
end
section
variable{s b:ByteArray}
variable{k a:Nat}
theorem wJ(c:UInt8)(w:Wd) :
  Calls prog 119 #[I .u8 c.toNat] w fun e w'=>e=υ (U (Sp.isLet c))/\w'=w:=by
 go_enter func119,ntmps119
 go_wp2
 all_goals
  go_ret;exact⟨eK (by unfold Sp.isLet;rw[Bool.eq_iff_iff];simp;omega),rfl⟩
theorem yy(c:UInt8)(w:Wd) :
  Calls prog 120 #[I .u8 c.toNat] w fun e w'=>e=υ (U (bx c))/\w'=w:=by
 go_enter func120,ntmps120
 go_wp2
 all_goals
  go_ret;exact⟨eK (by unfold bx;rw[Bool.eq_iff_iff];simp;omega),rfl⟩
def cT(p:UInt8->Bool)(l:Sp.Bs)(k:Nat):Prop:=∀j c,j<k->l[j]?=Y c->p c=true
theorem cT.succ{p:UInt8->Bool}(h:cT p s.data.toList k)(hk:k<s.size)(hp:p s[k]=true):cT p s.data.toList (k+1):=by
 intro j c hj hc;by_cases e:j=k
 ·subst e
  have:s.data.toList[j]?=Y s[j]:=by rw[Array.getElem?_toList];exact Array.getElem?_eq_getElem hk
  rw[this]at hc;cases hc;exact hp
 ·exact h j c (by omega) hc
theorem iP(p:UInt8->Bool):∀(l:Sp.Bs) (k:Nat),k<=l.length->cT p l k->(∀c,l[k]?=Y c->p c=false)->bO p l=k
 | [],k,hk,_,_=>by simp at hk;subst hk;rfl
 | c :: r,0,_,_,hs=>by rw[dX,hs c (by simp)];rfl
 | c :: r,k+1,hk,hm,hs=>by rw[dX,hm 0 c (by omega) (by simp)];have:=iP p r k (by simpa using hk) (fun j d hj hd=>hm (j+1) d (by omega) (by simpa using hd)) (fun d hd=>hs d (by simpa using hd));simp[this]
theorem byte_at(s:ByteArray)(k:Nat)(h:k<s.size):s.data.toList[k]?=Y s[k]:=by rw[Array.getElem?_toList];exact Array.getElem?_eq_getElem h
theorem pw(s:ByteArray)(k:Nat)(h:¬ k<s.size):s.data.toList[k]?=M:=by rw[Array.getElem?_toList];exact Array.getElem?_eq_none (by have:s.data.size=s.size:=rfl;omega)
theorem fI(s:ByteArray)(w:Wd)(hs:s.size<=400) :
  Calls prog 118 #[χ s,.func (Fn.func 119) #[] #[]] w fun e w'=>e=υ (I O (bO Sp.isLet s.data.toList))/\w'=w:=by
 go_enter func118,ntmps118
 go_wp2
 go_loop [5] (fun n=>∃k:Nat,k<=s.size/\Hid (cT Sp.isLet s.data.toList k)/\n=I O k) (fun i=>s.size - (intOf i).toNat)
 case atStart=>exact⟨0,Nat.zero_le _,fun _ _ h=>absurd h (Nat.not_lt_zero _),rfl⟩
 case round =>
  obtain⟨k,hk,hm,rfl⟩:=hrel;by_cases cR:k<s.size
  ·go_wp2_with fail
   refine(wJ s[k] _).mono ?_;rintro e w'⟨rfl,rfl⟩;by_cases Ro:Sp.isLet s[k]=true
   ·have uE:Hid (cT Sp.isLet s.data.toList (k+1)):=hm.succ cR Ro
    go_wp2
    go_round
    case rel=>exact⟨k+1,by omega,uE,by go_num⟩
    case measure=>simp[intOf];omega
   ·have Tf:Sp.isLet s[k]=false:=by simpa using Ro
    have hr:Hid (bO Sp.isLet s.data.toList=k):=iP _ _ _ (by simpa using hk) hm.out (fun c hc=>by rw[byte_at s k cR]at hc;cases hc;exact Tf)
    go_wp2
    go_ret;exact⟨dk (by rw[hr.out]),rfl⟩
  ·have hr:Hid (bO Sp.isLet s.data.toList=k):=iP _ _ _ (by simpa using hk) hm.out (fun c hc=>by rw[pw s k cR]at hc;cases hc)
   go_wp2
   go_ret;exact⟨dk (by rw[hr.out]),rfl⟩
theorem iM(s:ByteArray)(w:Wd)(hs:s.size<=400) :
  Calls prog 118 #[χ s,.func (Fn.func 120) #[] #[]] w fun e w'=>e=υ (I O (bO bx s.data.toList))/\w'=w:=by
 go_enter func118,ntmps118
 go_wp2
 go_loop [5] (fun n=>∃k:Nat,k<=s.size/\Hid (cT bx s.data.toList k)/\n=I O k) (fun i=>s.size - (intOf i).toNat)
 case atStart=>exact⟨0,Nat.zero_le _,fun _ _ h=>absurd h (Nat.not_lt_zero _),rfl⟩
 case round =>
  obtain⟨k,hk,hm,rfl⟩:=hrel;by_cases cR:k<s.size
  ·go_wp2_with fail
   refine(yy s[k] _).mono ?_;rintro e w'⟨rfl,rfl⟩;by_cases Ro:bx s[k]=true
   ·have uE:Hid (cT bx s.data.toList (k+1)):=hm.succ cR Ro
    go_wp2
    go_round
    case rel=>exact⟨k+1,by omega,uE,by go_num⟩
    case measure=>simp[intOf];omega
   ·have Tf:bx s[k]=false:=by simpa using Ro
    have hr:Hid (bO bx s.data.toList=k):=iP _ _ _ (by simpa using hk) hm.out (fun c hc=>by rw[byte_at s k cR]at hc;cases hc;exact Tf)
    go_wp2
    go_ret;exact⟨dk (by rw[hr.out]),rfl⟩
  ·have hr:Hid (bO bx s.data.toList=k):=iP _ _ _ (by simpa using hk) hm.out (fun c hc=>by rw[pw s k cR]at hc;cases hc)
   go_wp2
   go_ret;exact⟨dk (by rw[hr.out]),rfl⟩
theorem vj(t:ByteArray)(c:UInt8)(w:Wd)(h:c∈t.data.toList) :
  Calls prog 163 #[χ t,I .u8 c.toNat] w fun e w'=>∃n:Nat,e=υ (I O n)/\w'=w:=by
 refine(strings_IndexByte t c.toNat w).mono ?_;rintro e w'⟨rfl,rfl⟩;have hc:((c.toNat:Int)).toNat.toUInt8=c:=by simp
 have:=Lib.contains_iff_indexByte t.data.toList c;rw[List.contains_iff_mem.2 h]at this;have h0:0<=Lib.indexByte t.data.toList c:=by simpa using this.symm
 exact⟨(Lib.indexByte t.data.toList c).toNat,by rw[hc,Int.toNat_of_nonneg h0],rfl⟩
theorem wO(t:ByteArray)(c:UInt8)(w:Wd)(h:c ∉ t.data.toList) :
  Calls prog 163 #[χ t,I .u8 c.toNat] w fun e w'=>e=υ (I O (-1))/\w'=w:=by
 refine(strings_IndexByte t c.toNat w).mono ?_;rintro e w'⟨rfl,rfl⟩;have hc:((c.toNat:Int)).toNat.toUInt8=c:=by simp
 have:=Lib.contains_iff_indexByte t.data.toList c;have hn:t.data.toList.contains c=false:=by
  cases hh:t.data.toList.contains c
  ·rfl
  ·exact absurd (List.contains_iff_mem.1 hh) h
 rw[hn]at this;have h0:¬ 0<=Lib.indexByte t.data.toList c:=by simpa using this.symm
 have h1:=Lib.indexByte_ge t.data.toList c;exact⟨dk (by rw[hc];omega),rfl⟩
theorem DG(s:ByteArray)(h0:0<s.size)(h1:¬ 1<s.size):bG s.data.toList=if s[0]∈pG then 1 else 0:=by
 have e:s.data.toList=[s[0]]:=by
  apply List.ext_getElem?;intro i
  match i with
  | 0=>rw[byte_at s 0 h0];rfl
  | i+1=>rw[pw s (i+1) (by omega)];rfl
 rw[e,jJ];simp
theorem Al(s:ByteArray)(h1:1<s.size):bG s.data.toList=if s[1].toNat=61/\s[0]∈uQ then 2 else if s[0]∈pG then 1 else 0:=by
 obtain⟨c,r,e⟩:∃c r,s.data.toList=c :: r:=by
  cases h:s.data.toList with
  | nil=>have:=byte_at s 0 (by omega);rw[h]at this;cases this
  | cons c r=>exact⟨c,r,rfl⟩
 have qd:=byte_at s 0 (by omega);have o7:=byte_at s 1 h1;rw[e]at qd o7 ⊢;simp at qd o7;have e1:s[1].toNat=61↔s[1]=61:=⟨fun h=>UInt8.toNat_inj.1 h,fun h=>by rw[h];rfl⟩;rw[jJ,List.head?_eq_getElem?,o7,qd];simp only[Option.some.injEq,e1]
theorem oQ(s:ByteArray)(w:Wd)(h0:0<s.size)(hs:s.size<=400) :
  Calls prog 121 #[χ s] w fun e w'=>e=υ (I O (bG s.data.toList))/\w'=w:=by
 by_cases h1:1<s.size
 ·have hf:Hid (bG s.data.toList=if s[1].toNat=61/\s[0]∈uQ then 2 else if s[0]∈pG then 1 else 0):=Al s h1
  by_cases h2:s[1].toNat=61
  ·by_cases h3:s[0]∈uQ
   ·have hr:Hid (bG s.data.toList=2):=by unfold Hid;rw[hf.out,if_pos ⟨h2,h3⟩]
    have H3:=h3;clear hf h3;go_enter func121,ntmps121;go_wp2_with fail;refine(vj _ _ _ H3).mono ?_;rintro e w'⟨n,rfl,rfl⟩;go_wp2_with fail;go_ret;exact⟨dk (by rw[hr.out];rfl),rfl⟩
   ·by_cases h4:s[0]∈pG
    ·have hr:Hid (bG s.data.toList=1):=by unfold Hid;rw[hf.out,if_neg (fun h=>h3 h.2),if_pos h4]
     have H3:=h3;have H4:=h4;clear hf h3 h4;go_enter func121,ntmps121;go_wp2_with fail;refine(wO _ _ _ H3).mono ?_;rintro e w'⟨rfl,rfl⟩;go_wp2_with fail;refine(vj _ _ _ H4).mono ?_;rintro e w'⟨n,rfl,rfl⟩;go_wp2_with fail;go_ret;exact⟨dk (by rw[hr.out];rfl),rfl⟩
    ·have hr:Hid (bG s.data.toList=0):=by unfold Hid;rw[hf.out,if_neg (fun h=>h3 h.2),if_neg h4]
     have H3:=h3;have H4:=h4;clear hf h3 h4;go_enter func121,ntmps121;go_wp2_with fail;refine(wO _ _ _ H3).mono ?_;rintro e w'⟨rfl,rfl⟩;go_wp2_with fail;refine(wO _ _ _ H4).mono ?_;rintro e w'⟨rfl,rfl⟩;go_wp2_with fail;go_ret;exact⟨dk (by rw[hr.out];rfl),rfl⟩
  ·have Ij:¬ ((s[1].toNat:Int)=61):=by omega
   by_cases h4:s[0]∈pG
   ·have hr:Hid (bG s.data.toList=1):=by unfold Hid;rw[hf.out,if_neg (fun h=>h2 h.1),if_pos h4]
    have H4:=h4;clear hf h4 h2;go_enter func121,ntmps121;go_wp2_with fail;refine(vj _ _ _ H4).mono ?_;rintro e w'⟨n,rfl,rfl⟩;go_wp2_with fail;go_ret;exact⟨dk (by rw[hr.out];rfl),rfl⟩
   ·have hr:Hid (bG s.data.toList=0):=by unfold Hid;rw[hf.out,if_neg (fun h=>h2 h.1),if_neg h4]
    have H4:=h4;clear hf h4 h2;go_enter func121,ntmps121;go_wp2_with fail;refine(wO _ _ _ H4).mono ?_;rintro e w'⟨rfl,rfl⟩;go_wp2_with fail;go_ret;exact⟨dk (by rw[hr.out];rfl),rfl⟩
 ·have hf:Hid (bG s.data.toList=if s[0]∈pG then 1 else 0):=DG s h0 h1
  by_cases h4:s[0]∈pG
  ·have hr:Hid (bG s.data.toList=1):=by unfold Hid;rw[hf.out,if_pos h4]
   have H4:=h4;clear hf h4;go_enter func121,ntmps121;go_wp2_with fail;refine(vj _ _ _ H4).mono ?_;rintro e w'⟨n,rfl,rfl⟩;go_wp2_with fail;go_ret;exact⟨dk (by rw[hr.out];rfl),rfl⟩
  ·have hr:Hid (bG s.data.toList=0):=by unfold Hid;rw[hf.out,if_neg h4]
   have H4:=h4;clear hf h4;go_enter func121,ntmps121;go_wp2_with fail;refine(wO _ _ _ H4).mono ?_;rintro e w'⟨rfl,rfl⟩;go_wp2_with fail;go_ret;exact⟨dk (by rw[hr.out];rfl),rfl⟩
theorem pT(s:ByteArray)(w:Wd)(hs:s.size<=400) :
  Calls prog 86 #[χ s] w fun e w'=>e=υ (φ #[I O (aC s.data.toList),I O (aZ s.data.toList)])/\w'=w:=by
 cases hl:s.data.toList with
 | nil =>
  have hb:s.toList.isEmpty=true:=by rw[ByteArray.toList_eq,hl];rfl
  have HL:=hid hl;clear hl;go_enter func86,ntmps86;go_wp2_with fail
  go_ret2
  exact⟨rfl,rfl⟩
 | cons c r =>
  have hb:s.toList.isEmpty=false:=by rw[ByteArray.toList_eq,hl];rfl
  have h0:0<s.size:=by
   have:s.data.toList.length=s.size:=by simp
   rw[hl]at this;simp at this;omega
  have e1:bO Sp.isLet s.data.toList=if Sp.isLet c then bO Sp.isLet r+1 else 0:=by rw[hl,dX]
  have e2:bO bx s.data.toList=if bx c then bO bx r+1 else 0:=by rw[hl,dX]
  by_cases hc:Sp.isLet c=true
  ·have hk:Hid (aC (c :: r)=2):=by unfold Hid;rw[bU,if_pos hc]
   have hn:Hid (aZ (c :: r)=bO Sp.isLet s.data.toList):=by unfold Hid;rw[eb,if_pos hc,hl]
   have hp:(0:Int)<(bO Sp.isLet s.data.toList:Nat):=by rw[e1,if_pos hc];omega
   clear e1 e2 hl hc;go_enter func86,ntmps86;go_wp2_with fail;refine(fI s _ hs).mono ?_;rintro e w'⟨rfl,rfl⟩;go_wp2_with fail
   go_ret2
   exact⟨by rw[hk.out,hn.out];rfl,rfl⟩
  ·have hp:((bO Sp.isLet s.data.toList:Nat):Int)=0:=by rw[e1,if_neg hc];rfl
   have Hp:=hid hp;by_cases hd:bx c=true
   ·have hk:Hid (aC (c :: r)=3):=by unfold Hid;rw[bU,if_neg hc,if_pos hd]
    have hn:Hid (aZ (c :: r)=bO bx s.data.toList):=by unfold Hid;rw[eb,if_neg hc,if_pos hd,hl]
    have sk:(0:Int)<(bO bx s.data.toList:Nat):=by rw[e2,if_pos hd];omega
    clear e1 e2 hl hc hd hp;go_enter func86,ntmps86;go_wp2_with fail;refine(fI s _ hs).mono ?_;rintro e w'⟨rfl,rfl⟩;rw[Hp.out];go_wp2_with fail;refine(iM s _ hs).mono ?_;rintro e w'⟨rfl,rfl⟩;go_wp2_with fail
    go_ret2
    exact⟨by rw[hk.out,hn.out];rfl,rfl⟩
   ·have sk:((bO bx s.data.toList:Nat):Int)=0:=by rw[e2,if_neg hd];rfl
    have Hp2:=hid sk;have hn:Hid (aZ (c :: r)=bG s.data.toList):=by unfold Hid;rw[eb,if_neg hc,if_neg hd,hl]
    by_cases oy:0<bG s.data.toList
    ·have hk:Hid (aC (c :: r)=4):=by unfold Hid;rw[bU,if_neg hc,if_neg hd,if_pos (by rw[<-hl];exact oy)]
     have BA:(0:Int)<(bG s.data.toList:Nat):=by omega
     clear e1 e2 hl hc hd hp sk oy;go_enter func86,ntmps86;go_wp2_with fail;refine(fI s _ hs).mono ?_;rintro e w'⟨rfl,rfl⟩;rw[Hp.out];go_wp2_with fail;refine(iM s _ hs).mono ?_;rintro e w'⟨rfl,rfl⟩;rw[Hp2.out];go_wp2_with fail;refine(oQ s _ h0 hs).mono ?_;rintro e w'⟨rfl,rfl⟩;go_wp2_with fail
     go_ret2
     exact⟨by rw[hk.out,hn.out];rfl,rfl⟩
    ·have hk:Hid (aC (c :: r)=0):=by unfold Hid;rw[bU,if_neg hc,if_neg hd,if_neg (by rw[<-hl];exact oy)]
     have Hp3:Hid (((bG s.data.toList:Nat):Int)=0):=by unfold Hid;omega
     clear e1 e2 hl hc hd hp sk oy;go_enter func86,ntmps86;go_wp2_with fail;refine(fI s _ hs).mono ?_;rintro e w'⟨rfl,rfl⟩;rw[Hp.out];go_wp2_with fail;refine(iM s _ hs).mono ?_;rintro e w'⟨rfl,rfl⟩;rw[Hp2.out];go_wp2_with fail;refine(oQ s _ h0 hs).mono ?_;rintro e w'⟨rfl,rfl⟩;rw[Hp3.out];go_wp2_with fail
     go_ret2
     exact⟨by rw[hk.out,hn.out,Hp3.out];rfl,rfl⟩
theorem jT(c:UInt8):mV c=true↔((c.toNat:Int)=32∨(c.toNat:Int)=10):=by unfold mV;rw[Bool.or_eq_true,beq_iff_eq,beq_iff_eq,<-UInt8.toNat_inj,<-UInt8.toNat_inj];show c.toNat=32∨c.toNat=10↔_;omega
def jq(l:Sp.Bs)(a k:Nat):Prop:=Sp.skip (l.drop a)=Sp.skip (l.drop k)
theorem jq.succ(h:jq s.data.toList a k)(hk:k<s.size)(hb:mV s[k]=true):jq s.data.toList a (k+1):=by
 unfold jq at *;rw[h];have:s.data.toList.drop k=s[k] :: s.data.toList.drop (k+1):=by rw[List.drop_eq_getElem_cons (by simpa using hk)];rfl
 rw[this];unfold Sp.skip;rw[List.dropWhile_cons,if_pos hb]
theorem jq.stop(h:jq s.data.toList a k)(hb:∀hk:k<s.size,mV s[k]=false):Sp.skip (s.data.toList.drop a)=s.data.toList.drop k:=by
 rw[h];by_cases hk:k<s.size
 ·have:s.data.toList.drop k=s[k] :: s.data.toList.drop (k+1):=by
   rw[List.drop_eq_getElem_cons (by simpa using hk)];rfl
  rw[this];unfold Sp.skip;rw[List.dropWhile_cons,if_neg (by rw[hb hk];simp)]
 ·rw[List.drop_of_length_le (by simpa using hk)];rfl
def mP(s:ByteArray)(l:Sp.Bs):Array Value:=#[I O ((s.size - l.length:Nat):Int),I O (aC l),χ ⟨(Sp.tok l).toArray⟩]
theorem Ju{a:ByteArray}(h:a.data.toList=b.data.toList):a=b:=by
 cases a;cases b;simp at h;simp[h]
theorem zq(s:ByteArray)(k:Nat)(hk:k<=s.size):mP s (s.data.toList.drop k)=#[I O k,I O (aC (s.data.toList.drop k)),χ (s.extract k (k+aZ (s.data.toList.drop k)))]:=by
 unfold mP;have h1:s.size - (s.data.toList.drop k).length=k:=by
  rw[List.length_drop];have:s.data.toList.length=s.size:=by simp
  omega
 have h2:(⟨(Sp.tok (s.data.toList.drop k)).toArray⟩:ByteArray)=s.extract k (k+aZ (s.data.toList.drop k)):=by apply Ju;rw[Lib.extract_data];simp[Sp.tok]
 rw[h1,h2]
theorem Ao(s:ByteArray)(k:Nat):(s.extract k s.size).data.toList=s.data.toList.drop k:=by rw[Lib.extract_data];apply List.take_of_length_le;simp
theorem tK(s:ByteArray)(k:Nat)(hk:k<=s.size):k+aZ (s.data.toList.drop k)<=s.size:=by
 have:=fD (s.data.toList.drop k);rw[List.length_drop]at this;have h:s.data.toList.length=s.size:=by simp
 omega
theorem vP(s:ByteArray)(a:Nat)(w:Wd)(ha:a<=s.size)(hs:s.size<=400) :
  Calls prog 55 #[χ s,I O a] w fun e w'=>e=υ (J (mP s (Sp.skip (s.data.toList.drop a))))/\ω w w':=by
 go_enter func55,ntmps55
 go_wp2
 go_loop [1] (fun n=>∃k:Nat,k<=s.size/\Hid (jq s.data.toList a k)/\n=I O k) (fun i=>s.size - (intOf i).toNat)
 case atStart=>exact⟨a,ha,rfl,rfl⟩
 case round =>
  obtain⟨k,hk,hm,rfl⟩:=hrel;have hx:Hid ((s.extract k s.size).data.toList=s.data.toList.drop k):=Ao s k;have hv:Hid (mP s (s.data.toList.drop k)=#[I O k,I O (aC (s.data.toList.drop k)),χ (s.extract k (k+aZ (s.data.toList.drop k)))]):=zq s k hk;have iD:=tK s k hk;have dC:(s.extract k s.size).size<=400:=by simp;omega
  have uV:=hid dC;clear dC;by_cases cR:k<s.size
  ·by_cases Ef:((s[k].toNat:Int)=32)
   ·have uE:Hid (jq s.data.toList a (k+1)):=hm.succ cR ((jT _).2 (.inl Ef))
    clear iD;go_wp2_with fail;exact⟨⟨k+1,by omega,uE,by go_num⟩,by simp[intOf];omega⟩
   ·by_cases gB:((s[k].toNat:Int)=10)
    ·have uE:Hid (jq s.data.toList a (k+1)):=hm.succ cR ((jT _).2 (.inr gB))
     clear iD;go_wp2_with fail;exact⟨⟨k+1,by omega,uE,by go_num⟩,by simp[intOf];omega⟩
    ·have gI:Hid (Sp.skip (s.data.toList.drop a)=s.data.toList.drop k):=hm.stop (fun _=>by
      cases hb:mV s[k]
      ·rfl
      ·exact absurd ((jT _).1 hb) (fun h=>h.elim Ef gB))
     have aam:((s[k].toNat:Int) == 32)=false:=by simpa using Ef
     have Z6:((s[k].toNat:Int) == 10)=false:=by simpa using gB
     have aS:Hid (mP s (Sp.skip (s.data.toList.drop a))=#[I O k,I O (aC (s.data.toList.drop k)),χ (s.extract k (k+aZ (s.data.toList.drop k)))]):=by unfold Hid;rw[gI.out,hv.out]
     clear gI hv hm;go_wp2_with fail;refine(pT _ _ uV.out).mono ?_;rintro e w'⟨rfl,rfl⟩;rw[hx.out];generalize aZ (s.data.toList.drop k)=m at *;generalize aC (s.data.toList.drop k)=kd at *;go_wp2_with fail;refine bodyPost_ret (v:=J #[I O k,I O kd,χ (s.extract k (k+m))]) (by simp[results,results55,go_sem]) rfl ⟨by rw[aS.out],?_⟩;exact(Below.refl _ _).alloc (Nat.le_refl _) _
  ·have gI:Hid (Sp.skip (s.data.toList.drop a)=s.data.toList.drop k):=hm.stop (fun h=>absurd h cR)
   have aS:Hid (mP s (Sp.skip (s.data.toList.drop a))=#[I O k,I O (aC (s.data.toList.drop k)),χ (s.extract k (k+aZ (s.data.toList.drop k)))]):=by unfold Hid;rw[gI.out,hv.out]
   clear gI hv hm;go_wp2_with fail;refine(pT _ _ uV.out).mono ?_;rintro e w'⟨rfl,rfl⟩;rw[hx.out];generalize aZ (s.data.toList.drop k)=m at *;generalize aC (s.data.toList.drop k)=kd at *;go_wp2_with fail;refine bodyPost_ret (v:=J #[I O k,I O kd,χ (s.extract k (k+m))]) (by simp[results,results55,go_sem]) rfl ⟨by rw[aS.out],?_⟩;exact(Below.refl _ _).alloc (Nat.le_refl _) _
end
section
def rE(s:ByteArray)(m1 m2:Nat)(l:Sp.Bs)(o:Nat)(ct:Int × Int)(nv:Value):Array Value :=
 #[χ s,I O ((s.size - l.length:Nat):Int),I O (aC l),χ ⟨(Sp.tok l).toArray⟩,I O o,I O ct.1,I O ct.2,nv,.map (Y m1),.map (Y m2)]
namespace Sp
section
variable{ns:List Nat}
def AI(l:Bs):List Nat:=if aC l=3 then [bj (tok l)] else []
inductive qD (a:Bs):Bs->List Nat->Prop
 | nil:qD a a []
 | step {l:Bs} {ns:List Nat}:qD a l ns->qD a (next l) (ns ++ AI l)
theorem qD.len{a l:Bs}(h:qD a l ns):ns.length+l.length<=a.length:=by
 induction h with
 | nil=>simp
 | @step l ns h ih =>
  unfold AI;by_cases h3:aC l=3
  ·have:=gm (dP (.inr (.inl h3)))
   rw[if_pos h3,List.length_append,List.length_singleton];omega
  ·have:=bZ l
   rw[if_neg h3,List.append_nil];omega
theorem qD.JN{a l:Bs}(h:qD a l ns)(h3:aC l≠3):qD a (next l) ns:=by
 have:=h.step
 rwa [AI,if_neg h3,List.append_nil]at this
theorem tF{l t:Bs}(h:tok l=t)(hd:t.head?.any bx=false):aC l≠3:=by
 intro h3;cases l with
 | nil=>simp[aC]at h3
 | cons c r =>
  rw[bU]at h3;by_cases h1:isLet c=true
  ·rw[if_pos h1]at h3;omega
  ·by_cases h2:bx c=true
   ·rw[if_neg h1,if_pos h2]at h3
    have:tok (c :: r)=c :: r.take (bO bx r):=by unfold tok;rw[eb,if_neg h1,if_pos h2,dX,if_pos h2,List.take_succ_cons]
    rw[<-h,this]at hd;simp[h2]at hd
   ·rw[if_neg h1,if_neg h2]at h3
    split at h3<;>omega
end
end Sp
def iW(ns:List Nat):List Value:=ns.map fun n=>I ψ ((n:Nat):Int)
structure uh(b:Nat)(s:ByteArray)(m1 m2:Nat)(l:Sp.Bs)(o:Nat)(ct:Int × Int)(nv:Value)(ns:List Nat)(w:Wd):Prop where
 aT:w.heap[b]?=Y (L (rE s m1 m2 l o ct nv) 147)
 suf:l <:+ s.data.toList
 sz:s.size<=400
 row:w.ownsRow (b+1) 226 1 nv ns.length (iW ns)
def Rd(b:Nat)(s:ByteArray)(m1 m2:Nat)(l:Sp.Bs)(o:Nat)(ct:Int × Int)(w:Wd):Prop :=
 ∃nv ns,uh b s m1 m2 l o ct nv ns w/\qD (Sp.skip s.data.toList) l ns
section
variable {b : Nat}{s : ByteArray}{m1 m2 : Nat}{l : Sp.Bs}{o : Nat}{ct : Int × Int}{nv : Value}{ns : List Nat}{w : Wd}
section
variable{w':Wd}
theorem uh.len(h:uh b s m1 m2 l o ct nv ns w):l.length<=s.size:=by have:=h.suf.length_le;simpa using this
theorem uh.lt(h:uh b s m1 m2 l o ct nv ns w):b<w.heap.size:=ad h.aT
theorem uh.fz(h:uh b s m1 m2 l o ct nv ns w)(i:Nat):w.frozen? ⟨b,i,M⟩=false:=aw h.aT i
theorem Rd.sz(h:Rd b s m1 m2 l o ct w):s.size<=400:=by obtain⟨_,_,h,_⟩:=h;exact h.sz
theorem Rd.len(h:Rd b s m1 m2 l o ct w):l.length<=s.size:=by obtain⟨_,_,h,_⟩:=h;exact h.len
theorem Rd.lt(h:Rd b s m1 m2 l o ct w):b<w.heap.size:=by obtain⟨_,_,h,_⟩:=h;exact h.lt
theorem Rd.c1(h:Rd b s m1 m2 l o ct w):w.cell? ⟨b,1,M⟩=Y (I O ((s.size - l.length:Nat):Int)):=by obtain⟨_,_,h,_⟩:=h;exact cell_of h.aT 1 rfl
theorem Rd.c2(h:Rd b s m1 m2 l o ct w):w.cell? ⟨b,2,M⟩=Y (I O (aC l)):=by obtain⟨_,_,h,_⟩:=h;exact cell_of h.aT 2 rfl
theorem Rd.c3(h:Rd b s m1 m2 l o ct w):w.cell? ⟨b,3,M⟩=Y (χ ⟨(Sp.tok l).toArray⟩):=by obtain⟨_,_,h,_⟩:=h;exact cell_of h.aT 3 rfl
theorem Rd.c4(h:Rd b s m1 m2 l o ct w):w.cell? ⟨b,4,M⟩=Y (I O o):=by obtain⟨_,_,h,_⟩:=h;exact cell_of h.aT 4 rfl
theorem Rd.c5(h:Rd b s m1 m2 l o ct w):w.cell? ⟨b,5,M⟩=Y (I O ct.1):=by obtain⟨_,_,h,_⟩:=h;exact cell_of h.aT 5 rfl
theorem Rd.c6(h:Rd b s m1 m2 l o ct w):w.cell? ⟨b,6,M⟩=Y (I O ct.2):=by obtain⟨_,_,h,_⟩:=h;exact cell_of h.aT 6 rfl
theorem Rd.c7(h:Rd b s m1 m2 l o ct w):w.cell? ⟨b,8,M⟩=Y (.map (Y m1)):=by obtain⟨_,_,h,_⟩:=h;exact cell_of h.aT 8 rfl
theorem Rd.c8(h:Rd b s m1 m2 l o ct w):w.cell? ⟨b,9,M⟩=Y (.map (Y m2)):=by obtain⟨_,_,h,_⟩:=h;exact cell_of h.aT 9 rfl
theorem Rd.fz(h:Rd b s m1 m2 l o ct w)(i:Nat):w.frozen? ⟨b,i,M⟩=false:=by obtain⟨_,_,h,_⟩:=h;exact h.fz i
theorem mi{n:Nat}{vs:List Value}(h:w.ownsRow (b+1) 226 1 nv n vs)(hn:∀k,b<k->k<w.heap.size->om w.heap[k]?->w'.heap[k]?=w.heap[k]?):w'.ownsRow (b+1) 226 1 nv n vs:=by
 obtain⟨h1,h2⟩:=h;refine⟨h1,?_⟩
 rcases h2 with h2 | ⟨g,cap,cur,e,hb,hh,r⟩
 ·exact .inl h2
 ·exact .inr ⟨g,cap,cur,e,hb,by rw[hn g (by omega) (ad hh) (by rw[hh];exact⟨_,_,rfl⟩)];exact hh,r⟩
theorem uh.bF(h:uh b s m1 m2 l o ct nv ns w)(hb:w'.heap[b]?=w.heap[b]?)(hn:∀k,b<k->k<w.heap.size->om w.heap[k]?->w'.heap[k]?=w.heap[k]?):uh b s m1 m2 l o ct nv ns w' :=
 ⟨by rw[hb];exact h.aT,h.suf,h.sz,mi h.row hn⟩
theorem Rd.bF(h:Rd b s m1 m2 l o ct w)(hb:w'.heap[b]?=w.heap[b]?)(hn:∀k,b<k->k<w.heap.size->om w.heap[k]?->w'.heap[k]?=w.heap[k]?):Rd b s m1 m2 l o ct w':=by obtain⟨nv,ns,h,hl⟩:=h;exact⟨nv,ns,h.bF hb hn,hl⟩
theorem uh.own(h:uh b s m1 m2 l o ct nv ns w)(i:Nat)(v:Value){l':Sp.Bs}{o':Nat}{aX:Int × Int}(hs:l' <:+ s.data.toList)(e:(rE s m1 m2 l o ct nv).setIfInBounds i v=rE s m1 m2 l' o' aX nv):uh b s m1 m2 l' o' aX nv ns (w.setCell ⟨b,i,M⟩ v) :=
 ⟨by rw[ah h.aT i v,e],hs,h.sz,mi h.row (fun k hk _ _=>Below.heap_setCell _ _ _ _ (by show k≠b;omega))⟩
end
end
section
variable{s:ByteArray}
variable{b m1 m2 o:Nat}
variable{w w1 w':Wd}
variable{l t:Sp.Bs}
variable{ct:Int × Int}
variable{nv:Value}
variable{ns:List Nat}
def bC(s:ByteArray)(b:Nat)(w:Wd)(er:Nat × Nat)(e:Ending)(w':Wd):Prop :=
 ∃N,e=.panicked [{ v:=σ 90 (ρ (Y ⟨N,0,M⟩)),recovered:=false }]/\w'.heap[N]?=Y (L #[I O ((s.size - er.2:Nat):Int),I O er.1] 96)/\Ext b w w'/\N≠b/\w.heap.size<=N
theorem bC.ahead{er:Nat × Nat}{e:Ending}(h:Ext b w w1)(k:bC s b w1 er e w'):bC s b w er e w':=by obtain⟨N,h1,h2,h3,h4,h5⟩:=k;exact⟨N,h1,h2,h.trans h3,h4,Nat.le_trans h.size h5⟩
theorem dZ(h:Rd b s m1 m2 l o ct w)(er:Int) :
  Calls prog 90 #[ρ (Y ⟨b,0,M⟩),I O er] w fun e w' =>
   e=υ (ρ (Y ⟨w.heap.size,0,M⟩))/\w'=w.alloc (L #[I O ((s.size - l.length:Nat):Int),I O er] 96):=by
 have h1:=h.c1;go_enter func90,ntmps90
 go_wp2
 go_ret;exact⟨rfl,rfl⟩
theorem gp(h:Rd b s m1 m2 l o ct w)(er:Nat)(ei:Int)(he:ei=er) :
  bC s b w (er,l.length) (.panicked [{ v:=σ 90 (ρ (Y ⟨w.heap.size,0,M⟩)),recovered:=false }]) (w.alloc (L #[I O ((s.size - l.length:Nat):Int),I O ei] 96)):=by
 subst he;refine⟨w.heap.size,rfl,heap_alloc_new _ _,(Ext.refl b w).alloc _,?_,Nat.le_refl _⟩;have:=h.lt;omega
theorem gM(h:Sp.tok l≠t):(Sp.tok l == t)=false:=by simpa using h
theorem AV(h:Rd b s m1 m2 l o ct w)(t:Sp.Bs)(ht:Sp.tok l=t) :
  Calls prog 231 #[ρ (Y ⟨b,0,M⟩),χ ⟨t.toArray⟩] w fun e w'=>e=υ (φ #[])/\w'=w:=by
 have h3:=h.c3;subst ht;go_enter func231,ntmps231;go_wp2_with fail
 go_end0
 exact⟨rfl,rfl⟩
theorem Db(h:Rd b s m1 m2 l o ct w)(t:Sp.Bs)(ht:Sp.tok l≠t) :
  Calls prog 231 #[ρ (Y ⟨b,0,M⟩),χ ⟨t.toArray⟩] w fun e w'=>bC s b w (2,l.length) e w':=by
 have h3:=h.c3;have hb:=gM ht;go_enter func231,ntmps231;go_wp2_with fail;refine(dZ h 2).mono ?_;rintro e w'⟨rfl,rfl⟩;go_wp2_with fail;exact⟨rfl,gp h 2 2 rfl⟩
theorem uh.drop_eq(h:uh b s m1 m2 l o ct nv ns w):s.data.toList.drop (s.size - l.length+aZ l)=l.drop (aZ l):=by
 obtain⟨p,hp⟩:=h.suf;have hs:s.size=p.length+l.length:=by
  have:s.data.toList.length=s.size:=by simp
  rw[<-this,<-hp,List.length_append]
 rw[<-hp,hs];rw[List.drop_append];rw[List.drop_of_length_le (by omega),List.nil_append];congr 1;omega
theorem GX(h:Rd b s m1 m2 l o ct w)(hb:ω w w1):Rd b s m1 m2 l o ct w1 :=
 h.bF (hb.block b h.lt) (fun k _ hk _=>hb.block k hk)
theorem Bj(h:uh b s m1 m2 l o ct nv ns w)(hb:ω w w1):uh b s m1 m2 l o ct nv ns w1 :=
 h.bF (hb.block b h.lt) (fun k _ hk _=>hb.block k hk)
theorem Iz(h:uh b s m1 m2 l o ct nv ns w)(hb:ω w w1)(l':Sp.Bs)(Ip:l' <:+ s.data.toList) :
  uh b s m1 m2 l' o ct nv ns (((w1.setCell ⟨b,1,M⟩ (I O ((s.size - l'.length:Nat):Int))).setCell ⟨b,2,M⟩ (I O (aC l'))).setCell ⟨b,3,M⟩ (χ ⟨(Sp.tok l').toArray⟩)) /\
  Ext b w (((w1.setCell ⟨b,1,M⟩ (I O ((s.size - l'.length:Nat):Int))).setCell ⟨b,2,M⟩ (I O (aC l'))).setCell ⟨b,3,M⟩ (χ ⟨(Sp.tok l').toArray⟩)):=by
 have h1:=Bj h hb;have x0:Ext b w w1:=Ext.aB hb;have x1:Ext b w (w1.setCell ⟨b,1,M⟩ (I O ((s.size - l'.length:Nat):Int))):=x0.setCell (p:=⟨b,1,M⟩) (.inl rfl) _;have x2:=x1.setCell (p:=⟨b,2,M⟩) (.inl rfl) (I O (aC l'));have x3:=x2.setCell (p:=⟨b,3,M⟩) (.inl rfl) (χ ⟨(Sp.tok l').toArray⟩);refine⟨⟨?_,Ip,h.sz,?_⟩,x3⟩
 ·have e:=ah (ah (ah h1.aT 1 (I O ((s.size - l'.length:Nat):Int))) 2 (I O (aC l'))) 3 (χ ⟨(Sp.tok l').toArray⟩)
  rw[e];rfl
 ·refine mi h1.row (fun k hk _ _=>?_)
  rw[Below.heap_setCell _ _ _ _ (by show k≠b;omega),Below.heap_setCell _ _ _ _ (by show k≠b;omega),Below.heap_setCell _ _ _ _ (by show k≠b;omega)]
theorem rQ(h:Below w.drew.heap.size w.drew w1):ω w w1:=⟨h.os,h.tape,h.output,h.size,h.block⟩
theorem MZ(h:uh b s m1 m2 l o ct nv ns w)(hb:Below w.drew.heap.size w.drew w1) :
  w1.cell? ⟨b,1,M⟩=Y (I O ((s.size - l.length:Nat):Int))/\w1.cell? ⟨b,2,M⟩=Y (I O (aC l))/\w1.cell? ⟨b,3,M⟩=Y (χ ⟨(Sp.tok l).toArray⟩)/\w1.frozen? ⟨b,1,M⟩=false/\w1.frozen? ⟨b,2,M⟩=false/\w1.frozen? ⟨b,3,M⟩=false:=by
 have h1:=Bj h (rQ hb);exact⟨cell_of h1.aT 1 rfl,cell_of h1.aT 2 rfl,cell_of h1.aT 3 rfl,h1.fz 1,h1.fz 2,h1.fz 3⟩
theorem zA(s:ByteArray)(l:Sp.Bs):Value.agg (mP s l)=J #[I O ((s.size - l.length:Nat):Int),I O (aC l),χ ⟨(Sp.tok l).toArray⟩]:=rfl
end
end
section
variable{b m1 m2 o B v base n:Nat}
variable{s:ByteArray}
variable{l t:Sp.Bs}
variable{ct:Int × Int}
variable{ns:List Nat}
variable{w w' w3:Wd}
theorem oS{nv:Value}(h:uh b s m1 m2 l o ct nv ns w) :
  Calls prog 232 #[ρ (Y ⟨b,0,M⟩)] w fun e w'=>e=υ (φ #[])/\uh b s m1 m2 (Sp.next l) o ct nv ns w'/\Ext b w w':=by
 have h0:w.cell? ⟨b,0,M⟩=Y (χ s):=cell_of h.aT 0 rfl;have h1:w.cell? ⟨b,1,M⟩=Y (I O ((s.size - l.length:Nat):Int)):=cell_of h.aT 1 rfl;have h3:w.cell? ⟨b,3,M⟩=Y (χ ⟨(Sp.tok l).toArray⟩):=cell_of h.aT 3 rfl;have hlen:=h.len;have dC:=h.sz;have Ka:=eD l;have hle:=fD l;have ha:s.size - l.length+aZ l<=s.size:=by omega
 have Kp:Hid (IntKind.i64.wrap (((s.size - l.length:Nat):Int)+((aZ l:Nat):Int))=((s.size - l.length+aZ l:Nat):Int)):=by unfold Hid;rw[IntWalk.i64_in _ (by omega)];omega
 have hd:Hid (Sp.skip (s.data.toList.drop (s.size - l.length+aZ l))=Sp.next l):=by unfold Hid;rw[h.drop_eq];rfl
 have ZH:Sp.next l <:+ s.data.toList:=(oK l).trans h.suf;go_enter func232,ntmps232
 go_region_with (go_at_call 55;go_must (rw[Kp.out]);go_must (refine(vP s _ _ ha dC).mono ?_);go_must (rintro e w1 ⟨rfl,hb⟩);go_must (rw[hd.out,zA]);obtain⟨k1,k2,k3,f1,f2,f3⟩:=MZ h hb)
 all_goals
  go_end0
  exact⟨rfl,Iz h (rQ hb) _ ZH⟩
theorem gQ(h:Rd b s m1 m2 l o ct w)(h3:aC l≠3) :
  Calls prog 232 #[ρ (Y ⟨b,0,M⟩)] w fun e w'=>e=υ (φ #[])/\Rd b s m1 m2 (Sp.next l) o ct w'/\Ext b w w':=by
 obtain⟨nv,ns,h,hl⟩:=h;refine(oS h).mono ?_;rintro e w'⟨rfl,h1,x1⟩;exact⟨rfl,⟨nv,ns,h1,hl.JN h3⟩,x1⟩
def dW(a:Nat)(t:Sp.Bs):Nat:=t.foldl (fun a c=>a*10+(c.toNat - 48)) a
theorem vG:∀(t:Sp.Bs) (a:Nat),a<=dW a t
 | [],_=>Nat.le_refl _
 | c :: r,a=>by have:=vG r (a*10+(c.toNat - 48));have e:dW a (c :: r)=dW (a*10+(c.toNat - 48)) r:=rfl;rw[e];omega
theorem LB(ι:Nat)(hM:ι<1844674407370955162):∀(t:Sp.Bs) (a:Nat),a<=ι->(∀c∈t,bx c=true)->Lib.parseUintM ι a t=if dW a t<=ι then .ok (dW a t) else .range
 | [],a,ha,_=>by have:dW a []=a:=rfl;rw[this,if_pos ha];rfl
 | c :: r,a,ha,hd=>by
  have hc:48<=c.toNat/\c.toNat<=57:=by have:=hd c (by simp);unfold bx at this;simpa using this
  have e:dW a (c :: r)=dW (a*10+(c.toNat - 48)) r:=rfl;have h1:Lib.parseUintM ι a (c :: r)=if 1844674407370955162<=a then .range else if ι<a*10+(c.toNat - 48) then .range else Lib.parseUintM ι (a*10+(c.toNat - 48)) r:=by show(if 48<=c.toNat/\c.toNat<=57 then _ else _)=_;rw[if_pos hc]
  rw[h1,if_neg (by omega),e];by_cases hm:ι<a*10+(c.toNat - 48)
  ·rw[if_pos hm,if_neg]
   have:=vG r (a*10+(c.toNat - 48));omega
  ·rw[if_neg hm]
   exact LB ι hM r _ (by omega) (fun d hdm=>hd d (by simp[hdm]))
theorem qZ(t:Sp.Bs)(dF:t≠[])(hd:∀c∈t,bx c=true):Lib.parseIntB 16 t=if bj t<=32767 then .ok ((bj t:Nat):Int) else .range:=by
 cases t with
 | nil=>exact absurd rfl dF
 | cons c r =>
  have hc:48<=c.toNat/\c.toNat<=57:=by have:=hd c (by simp);unfold bx at this;simpa using this
  have h1:Lib.parseUintB 16 (c :: r)=if dW 0 (c :: r)<=65535 then .ok (dW 0 (c :: r)) else .range:=by unfold Lib.parseUintB;rw[if_neg (by simp)];exact LB 65535 (by omega) (c :: r) 0 (by omega) hd
  have e0:bj (c :: r)=dW 0 (c :: r):=rfl;unfold Lib.parseIntB;simp only;rw[if_neg (by omega),h1,e0];by_cases h2:dW 0 (c :: r)<=65535
  ·rw[if_pos h2]
   simp only;by_cases h3:dW 0 (c :: r)<=32767
   ·rw[if_neg (by simp;omega),if_neg (by omega),if_neg (by omega),if_pos h3]
   ·rw[if_pos (by simp;omega),if_neg h3]
  ·rw[if_neg h2,if_neg (by omega)]
theorem pU(p:UInt8->Bool):∀(l:Sp.Bs),∀c∈l.takeWhile p,p c=true
 | [],c,h=>by simp at h
 | d :: r,c,h=>by
  rw[List.takeWhile_cons]at h;split at h
  ·rename_i hd
   rcases List.mem_cons.1 h with rfl | h
   ·exact hd
   ·exact pU p r c h
  ·simp at h
theorem Ba(p:UInt8->Bool)(l:Sp.Bs):l.take (bO p l)=l.takeWhile p:=by unfold bO;exact(List.prefix_iff_eq_take.1 (List.takeWhile_prefix p)).symm
theorem de(h:aC l=3):Sp.tok l≠[]/\∀c∈Sp.tok l,bx c=true:=by
 refine⟨fun e=>?_,?_⟩
 ·have:=dP (l:=l) (.inr (.inl h))
  rw[<-eD,e]at this;simp at this
 ·cases l with
  | nil=>simp[aC]at h
  | cons c r =>
   have hk:=bU c r;have hl:=eb c r;by_cases h1:Sp.isLet c=true
   ·rw[h,if_pos h1]at hk;omega
   ·by_cases h2:bx c=true
    ·rw[if_neg h1,if_pos h2]at hl
     unfold Sp.tok;rw[hl,Ba];exact pU _ _
    ·rw[h,if_neg h1,if_neg h2]at hk
     split at hk<;>omega
theorem nH(t:Sp.Bs):(⟨t.toArray⟩:ByteArray).size=t.length:=by simp[ByteArray.size]
theorem tN(t:Sp.Bs)(dF:t≠[])(hd:∀c∈t,bx c=true)(hl:t.length<=400)(hv:bj t<=32767)(w:Wd) :
  Calls prog 260 #[χ ⟨t.toArray⟩,I O 10,I O 16] w fun e w'=>e=υ (φ #[I O ((bj t:Nat):Int),.nilIface])/\ω w w':=by
 have hp:=qZ t dF hd;rw[if_pos hv]at hp;refine(strconv_ParseInt_10_at16_ok ⟨t.toArray⟩ (by rw[nH];omega) ((bj t:Nat):Int) (by simpa using hp) w).mono ?_;rintro e w'⟨rfl,h⟩;refine⟨rfl,?_⟩
 rcases h with rfl | ⟨u,rfl⟩
 ·exact Below.refl _ _
 ·exact Lib.bytesWorld_below _ _ _
theorem xh(t:Sp.Bs)(dF:t≠[])(hd:∀c∈t,bx c=true)(hl:t.length<=400)(hv:¬ bj t<=32767)(w:Wd)(hL:Laid w) :
  Calls prog 260 #[χ ⟨t.toArray⟩,I O 10,I O 16] w fun e w'=>∃(n:Int) (N:Nat),e=υ (φ #[I O n,σ 436 (ρ (Y ⟨N,0,M⟩))])/\ω w w':=by
 have hp:=qZ t dF hd;rw[if_neg hv]at hp;obtain⟨tp,p,hc⟩:=hL.errR;refine(strconv_ParseInt_10_at16_range ⟨t.toArray⟩ (by rw[nH];omega) (by simpa using hp) (σ tp p) w hc (.inr ⟨tp,p,rfl⟩)).mono ?_;rintro e w'⟨N,rfl,_,_,hb⟩;exact⟨_,N,rfl,hb⟩
theorem Laid.below(h:Laid w)(hb:Below B w w')(hB:11<=B):Laid w':=by
 have:=h.size;have:=hb.size;refine⟨by omega,fun k hk=>?_,fun k hk=>?_,?_,?_,?_⟩
 ·rw[hb.cell (by show 1<B;omega)];exact h.ops k hk
 ·rw[hb.cell (by show 2<B;omega)];exact h.rels k hk
 ·rw[hb.cell (by show 9<B;omega)];exact h.errS
 ·rw[hb.cell (by show 10<B;omega)];exact h.errR
 ·exact var?_below hb (g:=6) (by kernel_rfl) (by omega) h.pow
theorem tY(hk:aC l=3)(hlen:l.length<=400):∃t:ByteArray,t=⟨(Sp.tok l).toArray⟩/\t.size=(Sp.tok l).length/\0<t.size/\(Sp.tok l).length<=400/\∀hh:0<t.size,((Sp.tok l).head?=Y 48↔(t[0].toNat:Int)=48):=by
 obtain⟨dF,_⟩:=de hk;refine⟨⟨(Sp.tok l).toArray⟩,rfl,nH _,?_,?_,?_⟩
 ·rw[nH];exact List.length_pos_iff.2 dF
 ·have:=eD l;have:=fD l;omega
 ·intro hh
  have e:(Sp.tok l).head?=Y ((⟨(Sp.tok l).toArray⟩:ByteArray)[0]):=by have:=byte_at ⟨(Sp.tok l).toArray⟩ 0 hh;simp at this;rw[List.head?_eq_getElem?];exact this
  rw[e];generalize (⟨(Sp.tok l).toArray⟩:ByteArray)[0]=c;constructor
  ·intro h
   cases h;rfl
  ·intro h
   congr 1;apply UInt8.toNat_inj.1;show c.toNat=48;omega
theorem oN(hv:gA t=Y v):¬ (1<t.length/\t.head?=Y 48)/\bj t<=32767/\v=bj t:=by
 unfold gA at hv;split at hv
 ·cases hv
 ·rename_i hn
  split at hv
  ·rename_i hle
   cases hv;exact⟨hn,hle,rfl⟩
  ·cases hv
theorem Cp(hv:gA t=M):¬ bj t<=32767∨(bj t<=32767/\1<t.length/\t.head?=Y 48):=by
 unfold gA at hv;split at hv
 ·rename_i hn
  by_cases h:bj t<=32767
  ·exact .inr ⟨h,hn⟩
  ·exact .inl h
 ·split at hv
  ·cases hv
  ·rename_i h;exact .inl h
theorem Fh:(prog.info? 226).map (fun i=>(i.zero,i.size,i.bytes))=Y (Y (I ψ 0),1,2):=by kernel_rfl
theorem zw{e:TypeId}{v:Value}{vs:List Value}(h:w.ownsRow base e 1 v (n+1) vs):∃g cap,v=Z (Y ⟨g,0,M⟩) (n+1) cap:=by
 rcases h.2 with⟨_,h⟩ | ⟨g,cap,cur,rfl,_⟩
 ·omega
 ·exact⟨g,cap,rfl⟩
theorem GI{nv:Value}{ob:Obj}(h:uh b s m1 m2 l o ct nv ns w)(d:Nat)(v':Value)
  (ox:w3.ownsRow (b+1) 226 1 v' (ns.length+1) (iW ns ++ [I ψ ((d:Nat):Int)])) (hg:(w.alloc ob).grownBy w3 nv.ownBlock) :
  w3.heap[b]?=Y (L (rE s m1 m2 l o ct nv) 147)/\uh b s m1 m2 l o ct v' (ns ++ [d]) (w3.setCell ⟨b,7,M⟩ v')/\Ext b w (w3.setCell ⟨b,7,M⟩ v'):=by
 have NQ:∀k,nv.ownBlock=Y k->b<k/\om w.heap[k]?:=by
  intro k hk
  rcases h.row.2 with⟨rfl,_⟩ | ⟨g',cap,cur,rfl,hb,hh,_⟩
  ·simp[Value.ownBlock]at hk
  ·simp[Value.ownBlock]at hk
   subst hk;exact⟨hb,by rw[hh];exact⟨_,_,rfl⟩⟩
 have cR:=h.lt;have hs:w.heap.size+1<=w3.heap.size:=by have:=hg.size;simpa using this
 have N4:∀k,k<w.heap.size->nv.ownBlock≠Y k->w3.heap[k]?=w.heap[k]?:=fun k hk dF=>by rw[hg.block k (by simp;omega) (fun e=>dF e.symm)];exact Below.heap_alloc _ _ _ hk
 have e:w3.heap[b]?=Y (L (rE s m1 m2 l o ct nv) 147):=by rw[N4 b cR (fun e=>by have:=(NQ b e).1;omega)];exact h.aT
 refine⟨e,⟨?_,h.suf,h.sz,?_⟩,⟨hg.os,hg.tape,hg.output,by simp[World.setCell];omega,fun k hk hb hn=>?_⟩⟩
 ·rw[ah e 7 v'];rfl
 ·have:=mi (b:=b) (w':=w3.setCell ⟨b,7,M⟩ v') ox (fun k hk _ _=>Below.heap_setCell _ _ _ _ (by show k≠b;omega))
  rw[List.length_append,List.length_singleton];unfold iW at *;rw[List.map_append];exact this
 ·rw[Below.heap_setCell _ _ _ _ (by show k≠b;exact hb)]
  exact N4 k hk (fun e=>hn (NQ k e).1 (NQ k e).2)
theorem JB(h:Rd b s m1 m2 l o ct w)(hk:aC l=3)(hv:gA (Sp.tok l)=Y v) :
  Calls prog 252 #[ρ (Y ⟨b,0,M⟩)] w fun e w'=>e=υ (I ψ v)/\Rd b s m1 m2 (Sp.next l) o ct w'/\Ext b w w':=by
 obtain⟨nv,ns,h,hl⟩:=h;obtain⟨i0,hi,KD,jm,gU⟩:=info_parts Fh;obtain⟨dF,hd⟩:=de hk;obtain⟨hn,hle,rfl⟩:=oN hv;obtain⟨t,et,dC,h0,hlen,hx⟩:=tY hk (by have:=h.len;have:=h.sz;omega);have hx:=hx h0;have h3:w.cell? ⟨b,3,M⟩=Y (χ t):=by rw[et];exact cell_of h.aT 3 rfl
 have HP:Hid (∀w:Wd,Calls prog 260 #[χ t,I O 10,I O 16] w fun e w'=>e=υ (φ #[I O ((bj (Sp.tok l):Nat):Int),.nilIface])/\ω w w'):=by rw[et];exact tN (Sp.tok l) dF hd hlen hle
 have HL:Hid (qD (Sp.skip s.data.toList) (Sp.next l) (ns ++ [bj (Sp.tok l)])):=by
  have:=hl.step
  rwa [AI,if_pos hk]at this
 have pN:ns.length<=400:=by
  have h1:=hl.len;have h2:=qY s.data.toList;have h3:=h.sz;have:s.data.toList.length=s.size:=by simp
  omega
 clear hl;generalize bj (Sp.tok l)=d at *;by_cases h1:1<t.size
 ·have Qn:¬ ((t[0].toNat:Int)=48):=fun e=>hn ⟨by omega,hx.2 e⟩
  have b48:((t[0].toNat:Int) == 48)=false:=by simpa using Qn
  clear hx hn dC hd dF hk hv et;go_enter func252,ntmps252;go_wp2_with fail;refine(HP.out _).mono ?_;rintro e w1⟨rfl,hb⟩;go_wp2_with fail;refine(oS (Bj h hb)).mono ?_;rintro e w2⟨rfl,h2,x2⟩;have c7:w2.cell? ⟨b,7,M⟩=Y nv:=cell_of h2.aT 7 rfl;have DX:=h2.lt;go_wp2_with (first
   | (at_builtin;refine wpList_append_own_at _ rfl _ _ 84 rfl (b+1) 226 i0 (I ψ 0) 1 2 underlying84 hi KD jm gU rfl (by decide) nv ns.length (iW ns) rfl (h2.row.alloc _) ⟨w2.heap.size,0,M⟩ 1 1 [I ψ (d:Nat)] rfl rfl (cell_one_new _ _ _) ?q1 ?q2 ?q3 ?q4 ?_))
  case q1=>intro u hu;simp at hu;subst hu;rfl
  case q2=>unfold maxLen;omega
  case q3=>omega
  case q4=>simp;omega
  intro v' w3 xV xR _ _;obtain⟨g3,N9,rfl⟩:=zw xV;obtain⟨NM,Gl,x3⟩:=GI h2 d _ xV xR;have c3:w3.cell? ⟨b,7,M⟩=Y nv:=cell_of NM 7 rfl;have f3:=aw NM 7;have H3:Hid (uh b s m1 m2 (Sp.next l) o ct _ (ns ++ [d]) (w3.setCell ⟨b,7,M⟩ (Z (Y ⟨g3,0,M⟩) (ns.length+1) N9))/\Ext b w2 (w3.setCell ⟨b,7,M⟩ (Z (Y ⟨g3,0,M⟩) (ns.length+1) N9))):=⟨Gl,x3⟩;clear Gl x3 NM xV xR;go_wp2_with fail;go_ret;exact⟨rfl,⟨_,_,H3.1,HL.out⟩,((Ext.aB hb).trans x2).trans H3.2⟩
 ·have o7:¬ (1:Int)<(t.size:Int):=by omega
  clear hx hn dC hd dF hk hv et;go_enter func252,ntmps252;go_wp2_with fail;refine(HP.out _).mono ?_;rintro e w1⟨rfl,hb⟩;go_wp2_with fail;refine(oS (Bj h hb)).mono ?_;rintro e w2⟨rfl,h2,x2⟩;have c7:w2.cell? ⟨b,7,M⟩=Y nv:=cell_of h2.aT 7 rfl;have DX:=h2.lt;go_wp2_with (first
   | (at_builtin;refine wpList_append_own_at _ rfl _ _ 84 rfl (b+1) 226 i0 (I ψ 0) 1 2 underlying84 hi KD jm gU rfl (by decide) nv ns.length (iW ns) rfl (h2.row.alloc _) ⟨w2.heap.size,0,M⟩ 1 1 [I ψ (d:Nat)] rfl rfl (cell_one_new _ _ _) ?q1 ?q2 ?q3 ?q4 ?_))
  case q1=>intro u hu;simp at hu;subst hu;rfl
  case q2=>unfold maxLen;omega
  case q3=>omega
  case q4=>simp;omega
  intro v' w3 xV xR _ _;obtain⟨g3,N9,rfl⟩:=zw xV;obtain⟨NM,Gl,x3⟩:=GI h2 d _ xV xR;have c3:w3.cell? ⟨b,7,M⟩=Y nv:=cell_of NM 7 rfl;have f3:=aw NM 7;have H3:Hid (uh b s m1 m2 (Sp.next l) o ct _ (ns ++ [d]) (w3.setCell ⟨b,7,M⟩ (Z (Y ⟨g3,0,M⟩) (ns.length+1) N9))/\Ext b w2 (w3.setCell ⟨b,7,M⟩ (Z (Y ⟨g3,0,M⟩) (ns.length+1) N9))):=⟨Gl,x3⟩;clear Gl x3 NM xV xR;go_wp2_with fail;go_ret;exact⟨rfl,⟨_,_,H3.1,HL.out⟩,((Ext.aB hb).trans x2).trans H3.2⟩
theorem Fc(h:Rd b s m1 m2 l o ct w)(hL:Laid w)(hk:aC l=3)(hv:gA (Sp.tok l)=M) :
  Calls prog 252 #[ρ (Y ⟨b,0,M⟩)] w fun e w'=>bC s b w (2,l.length) e w':=by
 obtain⟨dF,hd⟩:=de hk;obtain⟨t,et,dC,h0,hlen,hx⟩:=tY hk (by have:=h.len;have:=h.sz;omega);have hx:=hx h0;have h3:w.cell? ⟨b,3,M⟩=Y (χ t):=by rw[h.c3,et]
 rcases Cp hv with hle | ⟨hle,h1,Qn⟩
 ·have HP:Hid (Calls prog 260 #[χ t,I O 10,I O 16] w fun e w'=>∃(n:Int) (N:Nat),e=υ (φ #[I O n,σ 436 (ρ (Y ⟨N,0,M⟩))])/\ω w w'):=by
   rw[et];exact xh (Sp.tok l) dF hd hlen hle w hL
  clear hx dC hd dF hk hv et hle;go_enter func252,ntmps252;go_wp2_with fail;refine(HP.out).mono ?_;rintro e w1⟨n,N,rfl,hb⟩;go_wp2_with fail;refine(dZ (GX h hb) 2).mono ?_;rintro e w'⟨rfl,rfl⟩;go_wp2_with fail;exact⟨rfl,bC.ahead (Ext.aB hb) (gp (GX h hb) 2 2 rfl)⟩
 ·have HP:Hid (∀w:Wd,Calls prog 260 #[χ t,I O 10,I O 16] w fun e w'=>e=υ (φ #[I O ((bj (Sp.tok l):Nat):Int),.nilIface])/\ω w w'):=by
   rw[et];exact tN (Sp.tok l) dF hd hlen hle
  generalize bj (Sp.tok l)=d at *;have o7:1<t.size:=by omega
  have e48:(t[0].toNat:Int)=48:=hx.1 Qn;have b48:((t[0].toNat:Int) == 48)=true:=by simpa using e48
  clear hx dC hd dF hk hv et h1 Qn e48;go_enter func252,ntmps252;go_wp2_with fail;refine(HP.out _).mono ?_;rintro e w1⟨rfl,hb⟩;go_wp2_with fail;refine(dZ (GX h hb) 2).mono ?_;rintro e w'⟨rfl,rfl⟩;go_wp2_with fail;exact⟨rfl,bC.ahead (Ext.aB hb) (gp (GX h hb) 2 2 rfl)⟩
end
end Go.Proofs.YtiopfihjmkfdmaaGreatDoor
