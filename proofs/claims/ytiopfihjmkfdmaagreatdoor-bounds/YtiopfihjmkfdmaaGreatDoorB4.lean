import Derived.Test.YtiopfihjmkfdmaaGreatDoorB2
import Derived.BigQuiet
import Derived.Deep.DeepFit
import Derived.Deep.QuietTactic
import Derived.Deep.RegionWith
import Derived.Defers
import Derived.Lib.IndexAny
import Derived.Maps.AppendAt
import Derived.Maps.OwnSet
import Derived.Recover
import Derived.RegionDies
import Derived.Test.YtiopfihjmkfdmaaGreatDoorBh
namespace Go.Proofs.YtiopfihjmkfdmaaGreatDoor
open Go.Proofs.Tryz Sp
open Go.RowKit
set_option maxRecDepth 100000
set_option maxHeartbeats 16000000
theorem D7(p q:Addr)(w:Wd) :
  CallsD prog 54 #[.pointer (some p),.pointer (some q)] .returning w fun e u' w'=>e=.returned (.tuple #[])/\u'=.returning/\w'=w:=by
 refine callsD_of_wpS func54 rfl fun c₀ cs hu=>?_
 apply wpS_seq;apply wpS_region;simp[wpOpsS,go_sem,recoverD,hu,ntmps54,Exit.thenS];refine wpS_of_wp ?_;go_wp2_with fail;cases c₀
 simp_all [bodyPostS,results,results54]
theorem Av(a:Addr)(w:Wd):(Instr.typeAssert (.iface 90 (.pointer (some a))) 20 90 true).run prog w=.ok (.tuple #[.pointer (some a),.bool true]) w:=by kernel_rfl
theorem ud(P Q:Nat)(a:Addr)(w:Wd)(v0 v1 v3 v4 v2:Value)(hp:w.cell? ⟨P,0,none⟩=some v0)(rJ:w.cell? ⟨P,1,none⟩=some v1)(rQ:w.cell? ⟨P,2,none⟩=some v3)(AV:w.cell? ⟨P,3,none⟩=some v4)(fp:w.frozen? ⟨P,0,none⟩=false)(fp1:w.frozen? ⟨P,1,none⟩=false)(fp2:w.frozen? ⟨P,2,none⟩=false)(fp3:w.frozen? ⟨P,3,none⟩=false)(hq:w.cell? ⟨Q,0,none⟩=some v2)(fq:w.frozen? ⟨Q,0,none⟩=false)(Gc:P≠Q) :
  CallsD prog 54 #[.pointer (some ⟨P,0,none⟩),.pointer (some ⟨Q,0,none⟩)] (.panicking [{ v:=.iface 90 (.pointer (some a)),recovered:=false }]) w fun e u' w' =>
   e=.returned (.tuple #[])/\u'=.panicking [{ v:=.iface 90 (.pointer (some a)),recovered:=true }]/\w'=((((w.setCell ⟨P,0,none⟩ (.slice none 0 0)).setCell ⟨P,1,none⟩ (.int .i64 0)).setCell ⟨P,2,none⟩ (.int .i64 0)).setCell ⟨P,3,none⟩ (.slice none 0 0)).setCell ⟨Q,0,none⟩ (.iface 90 (.pointer (some a))):=by
 have VP:=Av a;have uS:((((w.setCell ⟨P,0,none⟩ (.slice none 0 0)).setCell ⟨P,1,none⟩ (.int .i64 0)).setCell ⟨P,2,none⟩ (.int .i64 0)).setCell ⟨P,3,none⟩ (.slice none 0 0)).cell? ⟨Q,0,none⟩=some v2:=by rw[World.cell?_of_block (w:=w) (by rw[Below.heap_setCell _ _ _ _ (fun e=>Gc e.symm),Below.heap_setCell _ _ _ _ (fun e=>Gc e.symm),Below.heap_setCell _ _ _ _ (fun e=>Gc e.symm),Below.heap_setCell _ _ _ _ (fun e=>Gc e.symm)])];exact hq
 have fq2:((((w.setCell ⟨P,0,none⟩ (.slice none 0 0)).setCell ⟨P,1,none⟩ (.int .i64 0)).setCell ⟨P,2,none⟩ (.int .i64 0)).setCell ⟨P,3,none⟩ (.slice none 0 0)).frozen? ⟨Q,0,none⟩=false:=by rw[World.frozen?_of_block (w:=w) (by rw[Below.heap_setCell _ _ _ _ (fun e=>Gc e.symm),Below.heap_setCell _ _ _ _ (fun e=>Gc e.symm),Below.heap_setCell _ _ _ _ (fun e=>Gc e.symm),Below.heap_setCell _ _ _ _ (fun e=>Gc e.symm)])];exact fq
 refine callsD_of_wpS func54 rfl fun c₀ cs hu=>?_
 apply wpS_seq;apply wpS_region;simp[wpOpsS,go_sem,recoverD,hu,ntmps54,Exit.thenS];refine wpS_of_wp ?_;change Code.wp _ _ _ { tmps:=#[.pointer (some ⟨P,0,none⟩),.pointer (some ⟨Q,0,none⟩),undef,undef,undef,.iface 90 (.pointer (some a)),undef,undef,undef,undef,undef,undef,undef,undef],defers:=[] } _;go_wp2_with fail;simp[bodyPostS,results,results54]
namespace Sp
section
variable{t l l1:Bs}
variable{o k lv:Nat}
variable{A:eW}
theorem bU(h:take t l=.ok l1):tok l=t/\l1=next l:=by
 unfold take at h;split at h
 ·cases h;exact⟨by assumption,rfl⟩
 ·cases h
theorem cE(h:enter t o l=.ok l1):tok l=t/\o≠12/\l1=next l:=by
 unfold enter at h;split at h
 ·split at h
  ·cases h
  ·cases h;exact⟨by assumption,by assumption,rfl⟩
 ·cases h
theorem gm(h:dE l=.ok (k,l1)):aR l=some k/\l1=next l:=by
 unfold dE at h;split at h
 ·rename_i hk;cases h;exact⟨hk,rfl⟩
 ·cases h
theorem qA{part:Bs->R A.S}(hp:∀l x l1,part l=.ok (x,l1)->l1.length<=l.length) :
  ∀(m:Nat) (x:A.S) (l:Bs) (y:A.S) (l1:Bs),bC A lv part m x l=.ok (y,l1)->l1.length<=l.length
 | 0,x,l,y,l1,h=>by unfold bC at h;cases h;exact Nat.le_refl _
 | m+1,x,l,y,l1,h=>by
  unfold bC at h;split at h
  ·split at h
   ·split at h
    ·rename_i y' l' hr
     have h1:=hp _ _ _ hr;have h2:=qA hp m _ _ _ _ h;have h3:=cj l;omega
    ·cases h
   ·cases h;exact Nat.le_refl _
  ·cases h;exact Nat.le_refl _
theorem sJ{part:Bs->R A.S}(hp:∀l x l1,part l=.ok (x,l1)->l1.length<=l.length)(l:Bs)(y:A.S)(l1:Bs)(h:bL A lv part l=.ok (y,l1)):l1.length<=l.length:=by
 unfold bL at h;split at h
 ·rename_i x l' hr
  have h1:=hp _ _ _ hr;have h2:=qA hp _ _ _ _ _ h;omega
 ·cases h
theorem Db{part:Bs->R A.S}(hp:∀l x l1,part l=.ok (x,l1)->l1.length<l.length)(l:Bs)(y:A.S)(l1:Bs)(h:bL A lv part l=.ok (y,l1)):l1.length<l.length:=by
 unfold bL at h;split at h
 ·rename_i x l' hr
  have h1:=hp _ _ _ hr;have h2:=qA (fun l x l1 h=>Nat.le_of_lt (hp l x l1 h)) _ _ _ _ _ h;omega
 ·cases h
theorem GL{u:Bs->R A.S}(hp:∀l x l1,u l=.ok (x,l1)->l1.length<l.length)(l:Bs)(y:A.S)(l1:Bs)(h:mO A u l=.ok (y,l1)):l1.length<l.length :=
 Db (Db hp) l y l1 h
theorem eZ(h:aR l=some k):aC l=2:=by
 unfold aR at h;split at h
 ·split at h
  ·rename_i hc;exact hc.1
  ·cases h
 ·cases h
theorem iH:∀(n o:Nat) (l:Bs) (x:A.S) (l1:Bs),bo A n o l=.ok (x,l1)->l1.length<l.length
 | 0,o,l,x,l1,h=>by unfold bo bad at h;cases h
 | n+1,o,l,x,l1,h=>by
  unfold bo at h;split at h
  ·rename_i hk
   split at h
   ·cases h;exact fL (dc (.inr (.inl hk)))
   ·cases h
  ·split at h
   ·split at h
    ·rename_i k l2 hr
     cases h
     obtain⟨hk,rfl⟩:=gm hr;exact fL (dc (.inl (eZ hk)))
    ·cases h
   ·split at h
    ·split at h
     ·rename_i l2 hr
      obtain⟨ht,_,rfl⟩:=cE hr;have:=aI ht (by simp);split at h
      ·rename_i x2 l3 sL
       have:=iH n _ _ _ _ sL;cases h;omega
      ·cases h
     ·cases h
    ·split at h
     ·rename_i l2 hr
      obtain⟨ht,_,rfl⟩:=cE hr;have:=aI ht (by simp);split at h
      ·rename_i x2 l3 sL
       have:=GL (iH n (o+1)) _ _ _ sL;split at h
       ·rename_i l4 zp
        obtain⟨_,rfl⟩:=bU zp;have:=cj l3;cases h;omega
       ·cases h
      ·cases h
     ·cases h
end
end Sp
section
open Go.RowKit Go.WideMaps Go.Maps
structure Laid(w:Wd):Prop where
 size:11<=w.heap.size
 ops:∀k,k<5->w.cell? ⟨1,k,none⟩=some (.string ⟨(cD k).toArray⟩)
 rels:∀k,k<6->w.cell? ⟨2,k,none⟩=some (.string ⟨(aQ k).toArray⟩)
 errS:∃tp p,w.cell? ⟨9,0,none⟩=some (.iface tp p)
 errR:∃tp p,w.cell? ⟨10,0,none⟩=some (.iface tp p)
 pow:Lib.TabIs prog w "internal/strconv.uint64pow10" .u64 Lib.pow10Tab
theorem AQ(k:Nat)(hk:k<5)(w:Wd)(h:w.cell? ⟨1,k,none⟩=some (.string ⟨(cD k).toArray⟩)) :
  Calls prog 87 #[.int .i64 k] w fun e w'=>e=.returned (.string ⟨(cD k).toArray⟩)/\w'=w:=by
 generalize (⟨(cD k).toArray⟩:ByteArray)=t at *;go_enter func87,ntmps87;go_wp2_with fail;go_ret;exact⟨rfl,rfl⟩
theorem x9(k:Nat)(hk:k<6)(w:Wd)(h:w.cell? ⟨2,k,none⟩=some (.string ⟨(aQ k).toArray⟩)) :
  Calls prog 88 #[.int .i64 k] w fun e w'=>e=.returned (.string ⟨(aQ k).toArray⟩)/\w'=w:=by
 generalize (⟨(aQ k).toArray⟩:ByteArray)=t at *;go_enter func88,ntmps88;go_wp2_with fail;go_ret;exact⟨rfl,rfl⟩
theorem pK(k:Nat)(hk:k<5)(w:Wd) :
  Calls prog 240 #[.int .i64 k] w fun e w'=>e=.returned (.bool (decide (3<=k)))/\w'=w:=by
 have tS:k=3∨k=4∨(k<3/\¬ ((k:Int)=3)/\¬ ((k:Int)=4)):=by omega
 rcases tS with rfl | rfl | ⟨h2,h0,h1⟩
 ·go_enter func240,ntmps240
  go_wp2_with fail;go_ret;exact⟨rfl,rfl⟩
 ·go_enter func240,ntmps240
  go_wp2_with fail;go_ret;exact⟨rfl,rfl⟩
 ·have hl:Hid (decide (3<=k)=false):=by unfold Hid;simp;omega
  clear h2 hk;go_enter func240,ntmps240;go_wp2_with fail;go_ret;refine⟨bA ?_,rfl⟩;rw[hl.out];simp[h0,h1]
theorem iP(k:Nat)(hk:k<5)(w:Wd) :
  Calls prog 172 #[.int .i64 k] w fun e w'=>e=.returned (.int .i64 (cL k))/\w'=w:=by
 have tS:k=0∨k=1∨(2<=k/\¬ ((k:Int)=0)/\¬ ((k:Int)=1)):=by omega
 rcases tS with rfl | rfl | ⟨h2,h0,h1⟩
 ·go_enter func172,ntmps172
  go_wp2_with fail;go_ret;exact⟨rfl,rfl⟩
 ·go_enter func172,ntmps172
  go_wp2_with fail;go_ret;exact⟨rfl,rfl⟩
 ·have hl:Hid (cL k=1):=by unfold Hid cL;rw[if_neg (by omega)]
  have b0:((k:Int) == 0)=false:=by simp;omega
  have b1:((k:Int) == 1)=false:=by simp;omega
  go_enter func172,ntmps172;go_wp2_with fail;go_ret;exact⟨cX (by rw[hl.out];rfl),rfl⟩
theorem Pm:Keyed prog 9:=string_keyed underlying9
theorem RH(w:Wd):(zeroValue 229).run prog w=.ok (.int .i64 0) w:=by kernel_rfl
theorem OH(w:Wd):(zeroValue 230).run prog w=.ok (.int .i64 0) w:=by kernel_rfl
def lu:Nat->DataW Unit
 | 0=>.map []
 | k+1=>(lu k).put (.string (cD k)) (.lit (.int .i64 k))
def eT:Nat->DataW Unit
 | 0=>.map []
 | k+1=>(eT k).put (.string (aQ k)) (.lit (.int .i64 k))
def jl(m:Nat)(w:Wd):Prop:=w.ownsMap prog 9 (plainElem (H:=Unit) prog 229) m 5 (lu 5)
def gK(m:Nat)(w:Wd):Prop:=w.ownsMap prog 9 (plainElem (H:=Unit) prog 230) m 6 (eT 6)
theorem zu(t:Sp.Bs)(h:t.length<=400):keyOf prog 9 (.string ⟨t.toArray⟩)=some (.string t):=by have:=keyOf_string_mk (P:=prog) (s:=⟨t.toArray⟩) underlying9 (by show t.toArray.size<=maxLen;unfold maxLen;simp;omega);simpa using this
theorem En(k:Nat):(cD k).length<=400:=by unfold cD;split<;>decide
theorem B7(k:Nat):(aQ k).length<=400:=by unfold aQ;split<;>decide
theorem Jm(w:Wd)(hL:Laid w) :
  Calls prog 56 #[] w fun e w'=>e=.returned (.map (some w.heap.size))/\jl w.heap.size w'/\Below w.heap.size w w':=by
 have hmm:=@run_makeMap prog;go_enter func56,ntmps56;go_wp2_with fail
 go_loopw [2] (fun i wr=>∃k:Nat,k<=5/\i=.int .i64 k/\wr.ownsMap prog 9 (plainElem (H:=Unit) prog 229) w.heap.size k (lu k)/\Below w.heap.size w wr)
  (fun i _=>5 - (intOf i).toNat)
 case atStart=>exact⟨0,Nat.zero_le _,rfl,World.ownsMap_made _ _ _ _,(Below.refl _ _).alloc (Nat.le_refl _) _⟩
 case round =>
  obtain⟨k,hk,rfl,jG,eV⟩:=hrel;by_cases dj:k<5
  ·have hc:wr.cell? ⟨1,k,none⟩=some (.string ⟨(cD k).toArray⟩):=by
    rw[eV.cell (by have:=hL.size;show 1<w.heap.size;omega)];exact hL.ops k dj
   have HC:Hid (wr.cell? ⟨1,k,none⟩=some (.string ⟨(cD k).toArray⟩)):=hc;clear hc;have hle:(k:Int)<=4:=by omega
   have Tn:=zu (cD k) (En k);have Tu:(Lit.int .i64 (k:Int)).wf=true:=by have:=wrap64_wf (k:Int);rwa [IntWalk.wrap64_in _ (by omega)]at this
   go_wp2_with fail;refine(AQ k dj _ HC.out).mono ?_;rintro e w'⟨rfl,rfl⟩;go_wp2_with (first
    | (at_mapUpdate;refine wpList_mapUpdate_own _ rfl _ _ _ 141 rfl 9 229 Pm underlying141 _ w.heap.size k _ rfl jG (by unfold maxLen;omega) _ _ _ rfl rfl Tn _ [] (plainElem_int underlying229 Tu) ?_)
    | go_in)
   intro w1 rN xy;have R2:=eV.grown xy eV.size (fun j hj=>by cases hj;exact Nat.le_refl _);clear xy jG;go_wp2_with fail;exact⟨⟨k+1,by omega,by go_num,rN,R2⟩,by simp[intOf];omega⟩
  ·have nO:¬ (k:Int)<=4:=by omega
   have e:k=5:=by omega
   subst e;go_wp2_with fail;go_ret;exact⟨rfl,jG,eV⟩
theorem D5(w:Wd)(hL:Laid w) :
  Calls prog 57 #[] w fun e w'=>e=.returned (.map (some w.heap.size))/\gK w.heap.size w'/\Below w.heap.size w w':=by
 have hmm:=@run_makeMap prog;go_enter func57,ntmps57;go_wp2_with fail
 go_loopw [2] (fun i wr=>∃k:Nat,k<=6/\i=.int .i64 k/\wr.ownsMap prog 9 (plainElem (H:=Unit) prog 230) w.heap.size k (eT k)/\Below w.heap.size w wr)
  (fun i _=>6 - (intOf i).toNat)
 case atStart=>exact⟨0,Nat.zero_le _,rfl,World.ownsMap_made _ _ _ _,(Below.refl _ _).alloc (Nat.le_refl _) _⟩
 case round =>
  obtain⟨k,hk,rfl,jG,eV⟩:=hrel;by_cases dj:k<6
  ·have hc:wr.cell? ⟨2,k,none⟩=some (.string ⟨(aQ k).toArray⟩):=by
    rw[eV.cell (by have:=hL.size;show 2<w.heap.size;omega)];exact hL.rels k dj
   have HC:Hid (wr.cell? ⟨2,k,none⟩=some (.string ⟨(aQ k).toArray⟩)):=hc;clear hc;have hle:(k:Int)<=5:=by omega
   have Tn:=zu (aQ k) (B7 k);have Tu:(Lit.int .i64 (k:Int)).wf=true:=by have:=wrap64_wf (k:Int);rwa [IntWalk.wrap64_in _ (by omega)]at this
   go_wp2_with fail;refine(x9 k dj _ HC.out).mono ?_;rintro e w'⟨rfl,rfl⟩;go_wp2_with (first
    | (at_mapUpdate;refine wpList_mapUpdate_own _ rfl _ _ _ 143 rfl 9 230 Pm underlying143 _ w.heap.size k _ rfl jG (by unfold maxLen;omega) _ _ _ rfl rfl Tn _ [] (plainElem_int underlying230 Tu) ?_)
    | go_in)
   intro w1 rN xy;have R2:=eV.grown xy eV.size (fun j hj=>by cases hj;exact Nat.le_refl _);clear xy jG;go_wp2_with fail;exact⟨⟨k+1,by omega,by go_num,rN,R2⟩,by simp[intOf];omega⟩
  ·have nO:¬ (k:Int)<=5:=by omega
   have e:k=6:=by omega
   subst e;go_wp2_with fail;go_ret;exact⟨rfl,jG,eV⟩
end
section
open Go.RowKit Go.WideMaps Go.Maps
section
variable{b m:Nat}
variable{w w':Wd}
theorem iy:∀k,IsMap (lu k)
 | 0=>isMap_empty
 | k+1=>(iy k).put _ _
theorem fP:∀k,IsMap (eT k)
 | 0=>isMap_empty
 | k+1=>(fP k).put _ _
theorem Nh{a b:Sp.Bs}(h:a≠b):(Lit.string a)≠Lit.string b:=fun e=>h (Lit.string.inj e)
theorem eS{D:DataW Unit}(hD:IsMap D)(t:Sp.Bs)(d z:DataW Unit):Maps.has (D.put (.string t) d) (.string t)=true/\(D.put (.string t) d).atKey (.string t) z=d :=
 ⟨has_put_same hD (by simp[WideAt.IsKeyLit]) _,atKey_put_same hD (by simp[WideAt.IsKeyLit]) _ _⟩
theorem aO{D:DataW Unit}(t u:Sp.Bs)(d z:DataW Unit)(h:u≠t):Maps.has (D.put (.string t) d) (.string u)=Maps.has D (.string u)/\(D.put (.string t) d).atKey (.string u) z=D.atKey (.string u) z :=
 ⟨has_put_other (Nh h) _,atKey_put_other (Nh h) _ _⟩
theorem L7(t:Sp.Bs)(z:DataW Unit):Maps.has (lu 5) (.string t)=(eb t).isSome/\(lu 5).atKey (.string t) z=(match eb t with | some k=>.lit (.int .i64 (k:Nat)) | none=>z):=by
 unfold eb;by_cases h0:t=[43]
 ·subst h0
  have e4:=aO (D:=lu 4) (cD 4) [43] (.lit (.int .i64 (4:Nat))) z (by decide);have e3:=aO (D:=lu 3) (cD 3) [43] (.lit (.int .i64 (3:Nat))) z (by decide);have e2:=aO (D:=lu 2) (cD 2) [43] (.lit (.int .i64 (2:Nat))) z (by decide);have e1:=aO (D:=lu 1) (cD 1) [43] (.lit (.int .i64 (1:Nat))) z (by decide);have e0:=eS (iy 0) [43] (.lit (.int .i64 (0:Nat))) z;exact⟨(e4.1.trans (e3.1.trans (e2.1.trans (e1.1.trans e0.1)))),(e4.2.trans (e3.2.trans (e2.2.trans (e1.2.trans e0.2))))⟩
 by_cases h1:t=[45]
 ·subst h1
  have e4:=aO (D:=lu 4) (cD 4) [45] (.lit (.int .i64 (4:Nat))) z (by decide);have e3:=aO (D:=lu 3) (cD 3) [45] (.lit (.int .i64 (3:Nat))) z (by decide);have e2:=aO (D:=lu 2) (cD 2) [45] (.lit (.int .i64 (2:Nat))) z (by decide);have e1:=eS (iy 1) [45] (.lit (.int .i64 (1:Nat))) z;exact⟨(e4.1.trans (e3.1.trans (e2.1.trans e1.1))),(e4.2.trans (e3.2.trans (e2.2.trans e1.2)))⟩
 by_cases h2:t=[42]
 ·subst h2
  have e4:=aO (D:=lu 4) (cD 4) [42] (.lit (.int .i64 (4:Nat))) z (by decide);have e3:=aO (D:=lu 3) (cD 3) [42] (.lit (.int .i64 (3:Nat))) z (by decide);have e2:=eS (iy 2) [42] (.lit (.int .i64 (2:Nat))) z;exact⟨(e4.1.trans (e3.1.trans e2.1)),(e4.2.trans (e3.2.trans e2.2))⟩
 by_cases h3:t=[47]
 ·subst h3
  have e4:=aO (D:=lu 4) (cD 4) [47] (.lit (.int .i64 (4:Nat))) z (by decide);have e3:=eS (iy 3) [47] (.lit (.int .i64 (3:Nat))) z;exact⟨(e4.1.trans e3.1),(e4.2.trans e3.2)⟩
 by_cases h4:t=[37]
 ·subst h4
  have e4:=eS (iy 4) [37] (.lit (.int .i64 (4:Nat))) z;exact⟨ e4.1,  e4.2⟩
 have e4:=aO (D:=lu 4) (cD 4) t (.lit (.int .i64 (4:Nat))) z h4;have e3:=aO (D:=lu 3) (cD 3) t (.lit (.int .i64 (3:Nat))) z h3;have e2:=aO (D:=lu 2) (cD 2) t (.lit (.int .i64 (2:Nat))) z h2;have e1:=aO (D:=lu 1) (cD 1) t (.lit (.int .i64 (1:Nat))) z h1;have e0:=aO (D:=lu 0) (cD 0) t (.lit (.int .i64 (0:Nat))) z h0;rw[if_neg h0,if_neg h1,if_neg h2,if_neg h3,if_neg h4];exact⟨(e4.1.trans (e3.1.trans (e2.1.trans (e1.1.trans (e0.1.trans rfl))))),(e4.2.trans (e3.2.trans (e2.2.trans (e1.2.trans (e0.2.trans rfl)))))⟩
theorem JP(t:Sp.Bs)(z:DataW Unit):Maps.has (eT 6) (.string t)=(dQ t).isSome/\(eT 6).atKey (.string t) z=(match dQ t with | some k=>.lit (.int .i64 (k:Nat)) | none=>z):=by
 unfold dQ;by_cases h0:t=[60]
 ·subst h0
  have e5:=aO (D:=eT 5) (aQ 5) [60] (.lit (.int .i64 (5:Nat))) z (by decide);have e4:=aO (D:=eT 4) (aQ 4) [60] (.lit (.int .i64 (4:Nat))) z (by decide);have e3:=aO (D:=eT 3) (aQ 3) [60] (.lit (.int .i64 (3:Nat))) z (by decide);have e2:=aO (D:=eT 2) (aQ 2) [60] (.lit (.int .i64 (2:Nat))) z (by decide);have e1:=aO (D:=eT 1) (aQ 1) [60] (.lit (.int .i64 (1:Nat))) z (by decide);have e0:=eS (fP 0) [60] (.lit (.int .i64 (0:Nat))) z;exact⟨(e5.1.trans (e4.1.trans (e3.1.trans (e2.1.trans (e1.1.trans e0.1))))),(e5.2.trans (e4.2.trans (e3.2.trans (e2.2.trans (e1.2.trans e0.2)))))⟩
 by_cases h1:t=[60,61]
 ·subst h1
  have e5:=aO (D:=eT 5) (aQ 5) [60,61] (.lit (.int .i64 (5:Nat))) z (by decide);have e4:=aO (D:=eT 4) (aQ 4) [60,61] (.lit (.int .i64 (4:Nat))) z (by decide);have e3:=aO (D:=eT 3) (aQ 3) [60,61] (.lit (.int .i64 (3:Nat))) z (by decide);have e2:=aO (D:=eT 2) (aQ 2) [60,61] (.lit (.int .i64 (2:Nat))) z (by decide);have e1:=eS (fP 1) [60,61] (.lit (.int .i64 (1:Nat))) z;exact⟨(e5.1.trans (e4.1.trans (e3.1.trans (e2.1.trans e1.1)))),(e5.2.trans (e4.2.trans (e3.2.trans (e2.2.trans e1.2))))⟩
 by_cases h2:t=[61,61]
 ·subst h2
  have e5:=aO (D:=eT 5) (aQ 5) [61,61] (.lit (.int .i64 (5:Nat))) z (by decide);have e4:=aO (D:=eT 4) (aQ 4) [61,61] (.lit (.int .i64 (4:Nat))) z (by decide);have e3:=aO (D:=eT 3) (aQ 3) [61,61] (.lit (.int .i64 (3:Nat))) z (by decide);have e2:=eS (fP 2) [61,61] (.lit (.int .i64 (2:Nat))) z;exact⟨(e5.1.trans (e4.1.trans (e3.1.trans e2.1))),(e5.2.trans (e4.2.trans (e3.2.trans e2.2)))⟩
 by_cases h3:t=[33,61]
 ·subst h3
  have e5:=aO (D:=eT 5) (aQ 5) [33,61] (.lit (.int .i64 (5:Nat))) z (by decide);have e4:=aO (D:=eT 4) (aQ 4) [33,61] (.lit (.int .i64 (4:Nat))) z (by decide);have e3:=eS (fP 3) [33,61] (.lit (.int .i64 (3:Nat))) z;exact⟨(e5.1.trans (e4.1.trans e3.1)),(e5.2.trans (e4.2.trans e3.2))⟩
 by_cases h4:t=[62,61]
 ·subst h4
  have e5:=aO (D:=eT 5) (aQ 5) [62,61] (.lit (.int .i64 (5:Nat))) z (by decide);have e4:=eS (fP 4) [62,61] (.lit (.int .i64 (4:Nat))) z;exact⟨(e5.1.trans e4.1),(e5.2.trans e4.2)⟩
 by_cases h5:t=[62]
 ·subst h5
  have e5:=eS (fP 5) [62] (.lit (.int .i64 (5:Nat))) z;exact⟨ e5.1,  e5.2⟩
 have e5:=aO (D:=eT 5) (aQ 5) t (.lit (.int .i64 (5:Nat))) z h5;have e4:=aO (D:=eT 4) (aQ 4) t (.lit (.int .i64 (4:Nat))) z h4;have e3:=aO (D:=eT 3) (aQ 3) t (.lit (.int .i64 (3:Nat))) z h3;have e2:=aO (D:=eT 2) (aQ 2) t (.lit (.int .i64 (2:Nat))) z h2;have e1:=aO (D:=eT 1) (aQ 1) t (.lit (.int .i64 (1:Nat))) z h1;have e0:=aO (D:=eT 0) (aQ 0) t (.lit (.int .i64 (0:Nat))) z h0;rw[if_neg h0,if_neg h1,if_neg h2,if_neg h3,if_neg h4,if_neg h5];exact⟨(e5.1.trans (e4.1.trans (e3.1.trans (e2.1.trans (e1.1.trans (e0.1.trans rfl)))))),(e5.2.trans (e4.2.trans (e3.2.trans (e2.2.trans (e1.2.trans (e0.2.trans rfl))))))⟩
theorem Bx(h:jl m w)(t:Sp.Bs)(ht:t.length<=400) :
  (Instr.lookup 141 (.map (some m)) (.string ⟨t.toArray⟩) true).run prog w=.ok (.tuple #[.int .i64 (((eb t).getD 0:Nat):Int),.bool (eb t).isSome]) w:=by
 obtain⟨v,ps,Nw,hv⟩:=World.ownsMap.look_ok h Pm underlying141 (RH w) (plainElem_int underlying229 (a:=0) (by decide)) (zu t ht);have hw:=L7 t (.lit (.int .i64 0));rw[hw.1]at Nw;rw[hw.2]at hv;obtain⟨a,rfl,hc,_⟩:=plainElem_int_inv underlying229 hv;rw[Nw];cases ho:eb t with
 | none=>rw[ho]at hc;simp at hc;simp[<-hc.1]
 | some k=>rw[ho]at hc;simp at hc;simp[<-hc.1]
theorem yW(h:gK m w)(t:Sp.Bs)(ht:t.length<=400) :
  (Instr.lookup 143 (.map (some m)) (.string ⟨t.toArray⟩) true).run prog w=.ok (.tuple #[.int .i64 (((dQ t).getD 0:Nat):Int),.bool (dQ t).isSome]) w:=by
 obtain⟨v,ps,Nw,hv⟩:=World.ownsMap.look_ok h Pm underlying143 (OH w) (plainElem_int underlying230 (a:=0) (by decide)) (zu t ht);have hw:=JP t (.lit (.int .i64 0));rw[hw.1]at Nw;rw[hw.2]at hv;obtain⟨a,rfl,hc,_⟩:=plainElem_int_inv underlying230 hv;rw[Nw];cases ho:dQ t with
 | none=>rw[ho]at hc;simp at hc;simp[<-hc.1]
 | some k=>rw[ho]at hc;simp at hc;simp[<-hc.1]
theorem jl.ext(h:jl m w)(x:Ext b w w')(hb:m≠b):jl m w':=by obtain⟨es,clock,hh,r⟩:=h;exact⟨es,clock,x.bF hh hb sT,r⟩
theorem gK.ext(h:gK m w)(x:Ext b w w')(hb:m≠b):gK m w':=by obtain⟨es,clock,hh,r⟩:=h;exact⟨es,clock,x.bF hh hb sT,r⟩
end
end
section
variable{s b:ByteArray}
variable{k a:Nat}
theorem vF(c:UInt8)(w:Wd) :
  Calls prog 119 #[.int .u8 c.toNat] w fun e w'=>e=.returned (.bool (Sp.isLet c))/\w'=w:=by
 go_enter func119,ntmps119
 go_wp2
 all_goals
  go_ret;exact⟨bA (by unfold Sp.isLet;rw[Bool.eq_iff_iff];simp;omega),rfl⟩
theorem xV(c:UInt8)(w:Wd) :
  Calls prog 120 #[.int .u8 c.toNat] w fun e w'=>e=.returned (.bool (bq c))/\w'=w:=by
 go_enter func120,ntmps120
 go_wp2
 all_goals
  go_ret;exact⟨bA (by unfold bq;rw[Bool.eq_iff_iff];simp;omega),rfl⟩
def de(p:UInt8->Bool)(l:Sp.Bs)(k:Nat):Prop:=∀j c,j<k->l[j]?=some c->p c=true
theorem de.succ{p:UInt8->Bool}(h:de p s.data.toList k)(hk:k<s.size)(hp:p s[k]=true):de p s.data.toList (k+1):=by
 intro j c hj hc;by_cases e:j=k
 ·subst e
  have:s.data.toList[j]?=some s[j]:=by rw[Array.getElem?_toList];exact Array.getElem?_eq_getElem hk
  rw[this]at hc;cases hc;exact hp
 ·exact h j c (by omega) hc
theorem iK(p:UInt8->Bool):∀(l:Sp.Bs) (k:Nat),k<=l.length->de p l k->(∀c,l[k]?=some c->p c=false)->bN p l=k
 | [],k,hk,_,_=>by simp at hk;subst hk;rfl
 | c :: r,0,_,_,hs=>by rw[eo,hs c (by simp)];rfl
 | c :: r,k+1,hk,hm,hs=>by rw[eo,hm 0 c (by omega) (by simp)];have:=iK p r k (by simpa using hk) (fun j d hj hd=>hm (j+1) d (by omega) (by simpa using hd)) (fun d hd=>hs d (by simpa using hd));simp[this]
theorem byte_at(s:ByteArray)(k:Nat)(h:k<s.size):s.data.toList[k]?=some s[k]:=by rw[Array.getElem?_toList];exact Array.getElem?_eq_getElem h
theorem o8(s:ByteArray)(k:Nat)(h:¬ k<s.size):s.data.toList[k]?=none:=by rw[Array.getElem?_toList];exact Array.getElem?_eq_none (by have:s.data.size=s.size:=rfl;omega)
theorem fI(s:ByteArray)(w:Wd)(hs:s.size<=400) :
  Calls prog 118 #[.string s,.func (Fn.func 119) #[] #[]] w fun e w'=>e=.returned (.int .i64 (bN Sp.isLet s.data.toList))/\w'=w:=by
 go_enter func118,ntmps118
 go_wp2
 go_loop [5] (fun n=>∃k:Nat,k<=s.size/\Hid (de Sp.isLet s.data.toList k)/\n=.int .i64 k) (fun i=>s.size - (intOf i).toNat)
 case atStart=>exact⟨0,Nat.zero_le _,fun _ _ h=>absurd h (Nat.not_lt_zero _),rfl⟩
 case round =>
  obtain⟨k,hk,hm,rfl⟩:=hrel;by_cases dj:k<s.size
  ·go_wp2_with fail
   refine(vF s[k] _).mono ?_;rintro e w'⟨rfl,rfl⟩;by_cases QO:Sp.isLet s[k]=true
   ·have uQ:Hid (de Sp.isLet s.data.toList (k+1)):=hm.succ dj QO
    go_wp2
    go_round
    case rel=>exact⟨k+1,by omega,uQ,by go_num⟩
    case measure=>simp[intOf];omega
   ·have TV:Sp.isLet s[k]=false:=by simpa using QO
    have hr:Hid (bN Sp.isLet s.data.toList=k):=iK _ _ _ (by simpa using hk) hm.out (fun c hc=>by rw[byte_at s k dj]at hc;cases hc;exact TV)
    go_wp2
    go_ret;exact⟨cX (by rw[hr.out]),rfl⟩
  ·have hr:Hid (bN Sp.isLet s.data.toList=k):=iK _ _ _ (by simpa using hk) hm.out (fun c hc=>by rw[o8 s k dj]at hc;cases hc)
   go_wp2
   go_ret;exact⟨cX (by rw[hr.out]),rfl⟩
theorem iG(s:ByteArray)(w:Wd)(hs:s.size<=400) :
  Calls prog 118 #[.string s,.func (Fn.func 120) #[] #[]] w fun e w'=>e=.returned (.int .i64 (bN bq s.data.toList))/\w'=w:=by
 go_enter func118,ntmps118
 go_wp2
 go_loop [5] (fun n=>∃k:Nat,k<=s.size/\Hid (de bq s.data.toList k)/\n=.int .i64 k) (fun i=>s.size - (intOf i).toNat)
 case atStart=>exact⟨0,Nat.zero_le _,fun _ _ h=>absurd h (Nat.not_lt_zero _),rfl⟩
 case round =>
  obtain⟨k,hk,hm,rfl⟩:=hrel;by_cases dj:k<s.size
  ·go_wp2_with fail
   refine(xV s[k] _).mono ?_;rintro e w'⟨rfl,rfl⟩;by_cases QO:bq s[k]=true
   ·have uQ:Hid (de bq s.data.toList (k+1)):=hm.succ dj QO
    go_wp2
    go_round
    case rel=>exact⟨k+1,by omega,uQ,by go_num⟩
    case measure=>simp[intOf];omega
   ·have TV:bq s[k]=false:=by simpa using QO
    have hr:Hid (bN bq s.data.toList=k):=iK _ _ _ (by simpa using hk) hm.out (fun c hc=>by rw[byte_at s k dj]at hc;cases hc;exact TV)
    go_wp2
    go_ret;exact⟨cX (by rw[hr.out]),rfl⟩
  ·have hr:Hid (bN bq s.data.toList=k):=iK _ _ _ (by simpa using hk) hm.out (fun c hc=>by rw[o8 s k dj]at hc;cases hc)
   go_wp2
   go_ret;exact⟨cX (by rw[hr.out]),rfl⟩
theorem uB(t:ByteArray)(c:UInt8)(w:Wd)(h:c∈t.data.toList) :
  Calls prog 163 #[.string t,.int .u8 c.toNat] w fun e w'=>∃n:Nat,e=.returned (.int .i64 n)/\w'=w:=by
 refine(strings_IndexByte t c.toNat w).mono ?_;rintro e w'⟨rfl,rfl⟩;have hc:((c.toNat:Int)).toNat.toUInt8=c:=by simp
 have:=Lib.contains_iff_indexByte t.data.toList c;rw[List.contains_iff_mem.2 h]at this;have h0:0<=Lib.indexByte t.data.toList c:=by simpa using this.symm
 exact⟨(Lib.indexByte t.data.toList c).toNat,by rw[hc,Int.toNat_of_nonneg h0],rfl⟩
theorem vN(t:ByteArray)(c:UInt8)(w:Wd)(h:c ∉ t.data.toList) :
  Calls prog 163 #[.string t,.int .u8 c.toNat] w fun e w'=>e=.returned (.int .i64 (-1))/\w'=w:=by
 refine(strings_IndexByte t c.toNat w).mono ?_;rintro e w'⟨rfl,rfl⟩;have hc:((c.toNat:Int)).toNat.toUInt8=c:=by simp
 have:=Lib.contains_iff_indexByte t.data.toList c;have hn:t.data.toList.contains c=false:=by
  cases hh:t.data.toList.contains c
  ·rfl
  ·exact absurd (List.contains_iff_mem.1 hh) h
 rw[hn]at this;have h0:¬ 0<=Lib.indexByte t.data.toList c:=by simpa using this.symm
 have h1:=Lib.indexByte_ge t.data.toList c;exact⟨cX (by rw[hc];omega),rfl⟩
theorem CS(s:ByteArray)(h0:0<s.size)(h1:¬ 1<s.size):bG s.data.toList=if s[0]∈pD then 1 else 0:=by
 have e:s.data.toList=[s[0]]:=by
  apply List.ext_getElem?;intro i
  match i with
  | 0=>rw[byte_at s 0 h0];rfl
  | i+1=>rw[o8 s (i+1) (by omega)];rfl
 rw[e,jE];simp
theorem AD(s:ByteArray)(h1:1<s.size):bG s.data.toList=if s[1].toNat=61/\s[0]∈tX then 2 else if s[0]∈pD then 1 else 0:=by
 obtain⟨c,r,e⟩:∃c r,s.data.toList=c :: r:=by
  cases h:s.data.toList with
  | nil=>have:=byte_at s 0 (by omega);rw[h]at this;cases this
  | cons c r=>exact⟨c,r,rfl⟩
 have ZO:=byte_at s 0 (by omega);have nM:=byte_at s 1 h1;rw[e]at ZO nM ⊢;simp at ZO nM;have e1:s[1].toNat=61↔s[1]=61:=⟨fun h=>UInt8.toNat_inj.1 h,fun h=>by rw[h];rfl⟩;rw[jE,List.head?_eq_getElem?,nM,ZO];simp only[Option.some.injEq,e1]
theorem oh(s:ByteArray)(w:Wd)(h0:0<s.size)(hs:s.size<=400) :
  Calls prog 121 #[.string s] w fun e w'=>e=.returned (.int .i64 (bG s.data.toList))/\w'=w:=by
 by_cases h1:1<s.size
 ·have hf:Hid (bG s.data.toList=if s[1].toNat=61/\s[0]∈tX then 2 else if s[0]∈pD then 1 else 0):=AD s h1
  by_cases h2:s[1].toNat=61
  ·by_cases h3:s[0]∈tX
   ·have hr:Hid (bG s.data.toList=2):=by unfold Hid;rw[hf.out,if_pos ⟨h2,h3⟩]
    have H3:=h3;clear hf h3;go_enter func121,ntmps121;go_wp2_with fail;refine(uB _ _ _ H3).mono ?_;rintro e w'⟨n,rfl,rfl⟩;go_wp2_with fail;go_ret;exact⟨cX (by rw[hr.out];rfl),rfl⟩
   ·by_cases h4:s[0]∈pD
    ·have hr:Hid (bG s.data.toList=1):=by unfold Hid;rw[hf.out,if_neg (fun h=>h3 h.2),if_pos h4]
     have H3:=h3;have H4:=h4;clear hf h3 h4;go_enter func121,ntmps121;go_wp2_with fail;refine(vN _ _ _ H3).mono ?_;rintro e w'⟨rfl,rfl⟩;go_wp2_with fail;refine(uB _ _ _ H4).mono ?_;rintro e w'⟨n,rfl,rfl⟩;go_wp2_with fail;go_ret;exact⟨cX (by rw[hr.out];rfl),rfl⟩
    ·have hr:Hid (bG s.data.toList=0):=by unfold Hid;rw[hf.out,if_neg (fun h=>h3 h.2),if_neg h4]
     have H3:=h3;have H4:=h4;clear hf h3 h4;go_enter func121,ntmps121;go_wp2_with fail;refine(vN _ _ _ H3).mono ?_;rintro e w'⟨rfl,rfl⟩;go_wp2_with fail;refine(vN _ _ _ H4).mono ?_;rintro e w'⟨rfl,rfl⟩;go_wp2_with fail;go_ret;exact⟨cX (by rw[hr.out];rfl),rfl⟩
  ·have Hj:¬ ((s[1].toNat:Int)=61):=by omega
   by_cases h4:s[0]∈pD
   ·have hr:Hid (bG s.data.toList=1):=by unfold Hid;rw[hf.out,if_neg (fun h=>h2 h.1),if_pos h4]
    have H4:=h4;clear hf h4 h2;go_enter func121,ntmps121;go_wp2_with fail;refine(uB _ _ _ H4).mono ?_;rintro e w'⟨n,rfl,rfl⟩;go_wp2_with fail;go_ret;exact⟨cX (by rw[hr.out];rfl),rfl⟩
   ·have hr:Hid (bG s.data.toList=0):=by unfold Hid;rw[hf.out,if_neg (fun h=>h2 h.1),if_neg h4]
    have H4:=h4;clear hf h4 h2;go_enter func121,ntmps121;go_wp2_with fail;refine(vN _ _ _ H4).mono ?_;rintro e w'⟨rfl,rfl⟩;go_wp2_with fail;go_ret;exact⟨cX (by rw[hr.out];rfl),rfl⟩
 ·have hf:Hid (bG s.data.toList=if s[0]∈pD then 1 else 0):=CS s h0 h1
  by_cases h4:s[0]∈pD
  ·have hr:Hid (bG s.data.toList=1):=by unfold Hid;rw[hf.out,if_pos h4]
   have H4:=h4;clear hf h4;go_enter func121,ntmps121;go_wp2_with fail;refine(uB _ _ _ H4).mono ?_;rintro e w'⟨n,rfl,rfl⟩;go_wp2_with fail;go_ret;exact⟨cX (by rw[hr.out];rfl),rfl⟩
  ·have hr:Hid (bG s.data.toList=0):=by unfold Hid;rw[hf.out,if_neg h4]
   have H4:=h4;clear hf h4;go_enter func121,ntmps121;go_wp2_with fail;refine(vN _ _ _ H4).mono ?_;rintro e w'⟨rfl,rfl⟩;go_wp2_with fail;go_ret;exact⟨cX (by rw[hr.out];rfl),rfl⟩
theorem pN(s:ByteArray)(w:Wd)(hs:s.size<=400) :
  Calls prog 86 #[.string s] w fun e w'=>e=.returned (.tuple #[.int .i64 (aC s.data.toList),.int .i64 (bf s.data.toList)])/\w'=w:=by
 cases hl:s.data.toList with
 | nil =>
  have hb:s.toList.isEmpty=true:=by rw[ByteArray.toList_eq,hl];rfl
  have HL:=hid hl;clear hl;go_enter func86,ntmps86;go_wp2_with fail
  go_ret2
  exact⟨rfl,rfl⟩
 | cons c r =>
  have hb:s.toList.isEmpty=false:=by rw[ByteArray.toList_eq,hl];rfl
  have h0:0<s.size:=by
   have:s.data.toList.length=s.size:=by simp
   rw[hl]at this;simp at this;omega
  have e1:bN Sp.isLet s.data.toList=if Sp.isLet c then bN Sp.isLet r+1 else 0:=by rw[hl,eo]
  have e2:bN bq s.data.toList=if bq c then bN bq r+1 else 0:=by rw[hl,eo]
  by_cases hc:Sp.isLet c=true
  ·have hk:Hid (aC (c :: r)=2):=by unfold Hid;rw[bX,if_pos hc]
   have hn:Hid (bf (c :: r)=bN Sp.isLet s.data.toList):=by unfold Hid;rw[eD,if_pos hc,hl]
   have hp:(0:Int)<(bN Sp.isLet s.data.toList:Nat):=by rw[e1,if_pos hc];omega
   clear e1 e2 hl hc;go_enter func86,ntmps86;go_wp2_with fail;refine(fI s _ hs).mono ?_;rintro e w'⟨rfl,rfl⟩;go_wp2_with fail
   go_ret2
   exact⟨by rw[hk.out,hn.out];rfl,rfl⟩
  ·have hp:((bN Sp.isLet s.data.toList:Nat):Int)=0:=by rw[e1,if_neg hc];rfl
   have Hp:=hid hp;by_cases hd:bq c=true
   ·have hk:Hid (aC (c :: r)=3):=by unfold Hid;rw[bX,if_neg hc,if_pos hd]
    have hn:Hid (bf (c :: r)=bN bq s.data.toList):=by unfold Hid;rw[eD,if_neg hc,if_pos hd,hl]
    have rQ:(0:Int)<(bN bq s.data.toList:Nat):=by rw[e2,if_pos hd];omega
    clear e1 e2 hl hc hd hp;go_enter func86,ntmps86;go_wp2_with fail;refine(fI s _ hs).mono ?_;rintro e w'⟨rfl,rfl⟩;rw[Hp.out];go_wp2_with fail;refine(iG s _ hs).mono ?_;rintro e w'⟨rfl,rfl⟩;go_wp2_with fail
    go_ret2
    exact⟨by rw[hk.out,hn.out];rfl,rfl⟩
   ·have rQ:((bN bq s.data.toList:Nat):Int)=0:=by rw[e2,if_neg hd];rfl
    have Hp2:=hid rQ;have hn:Hid (bf (c :: r)=bG s.data.toList):=by unfold Hid;rw[eD,if_neg hc,if_neg hd,hl]
    by_cases P9:0<bG s.data.toList
    ·have hk:Hid (aC (c :: r)=4):=by unfold Hid;rw[bX,if_neg hc,if_neg hd,if_pos (by rw[<-hl];exact P9)]
     have AV:(0:Int)<(bG s.data.toList:Nat):=by omega
     clear e1 e2 hl hc hd hp rQ P9;go_enter func86,ntmps86;go_wp2_with fail;refine(fI s _ hs).mono ?_;rintro e w'⟨rfl,rfl⟩;rw[Hp.out];go_wp2_with fail;refine(iG s _ hs).mono ?_;rintro e w'⟨rfl,rfl⟩;rw[Hp2.out];go_wp2_with fail;refine(oh s _ h0 hs).mono ?_;rintro e w'⟨rfl,rfl⟩;go_wp2_with fail
     go_ret2
     exact⟨by rw[hk.out,hn.out];rfl,rfl⟩
    ·have hk:Hid (aC (c :: r)=0):=by unfold Hid;rw[bX,if_neg hc,if_neg hd,if_neg (by rw[<-hl];exact P9)]
     have Hp3:Hid (((bG s.data.toList:Nat):Int)=0):=by unfold Hid;omega
     clear e1 e2 hl hc hd hp rQ P9;go_enter func86,ntmps86;go_wp2_with fail;refine(fI s _ hs).mono ?_;rintro e w'⟨rfl,rfl⟩;rw[Hp.out];go_wp2_with fail;refine(iG s _ hs).mono ?_;rintro e w'⟨rfl,rfl⟩;rw[Hp2.out];go_wp2_with fail;refine(oh s _ h0 hs).mono ?_;rintro e w'⟨rfl,rfl⟩;rw[Hp3.out];go_wp2_with fail
     go_ret2
     exact⟨by rw[hk.out,hn.out,Hp3.out];rfl,rfl⟩
theorem jI(c:UInt8):mC c=true↔((c.toNat:Int)=32∨(c.toNat:Int)=10):=by unfold mC;rw[Bool.or_eq_true,beq_iff_eq,beq_iff_eq,<-UInt8.toNat_inj,<-UInt8.toNat_inj];show c.toNat=32∨c.toNat=10↔_;omega
def jf(l:Sp.Bs)(a k:Nat):Prop:=Sp.skip (l.drop a)=Sp.skip (l.drop k)
theorem jf.succ(h:jf s.data.toList a k)(hk:k<s.size)(hb:mC s[k]=true):jf s.data.toList a (k+1):=by
 unfold jf at *;rw[h];have:s.data.toList.drop k=s[k] :: s.data.toList.drop (k+1):=by rw[List.drop_eq_getElem_cons (by simpa using hk)];rfl
 rw[this];unfold Sp.skip;rw[List.dropWhile_cons,if_pos hb]
theorem jf.stop(h:jf s.data.toList a k)(hb:∀hk:k<s.size,mC s[k]=false):Sp.skip (s.data.toList.drop a)=s.data.toList.drop k:=by
 rw[h];by_cases hk:k<s.size
 ·have:s.data.toList.drop k=s[k] :: s.data.toList.drop (k+1):=by
   rw[List.drop_eq_getElem_cons (by simpa using hk)];rfl
  rw[this];unfold Sp.skip;rw[List.dropWhile_cons,if_neg (by rw[hb hk];simp)]
 ·rw[List.drop_of_length_le (by simpa using hk)];rfl
def nu(s:ByteArray)(l:Sp.Bs):Array Value:=#[.int .i64 ((s.size - l.length:Nat):Int),.int .i64 (aC l),.string ⟨(Sp.tok l).toArray⟩]
theorem J5{a:ByteArray}(h:a.data.toList=b.data.toList):a=b:=by
 cases a;cases b;simp at h;simp[h]
theorem yH(s:ByteArray)(k:Nat)(hk:k<=s.size):nu s (s.data.toList.drop k)=#[.int .i64 k,.int .i64 (aC (s.data.toList.drop k)),.string (s.extract k (k+bf (s.data.toList.drop k)))]:=by
 unfold nu;have h1:s.size - (s.data.toList.drop k).length=k:=by
  rw[List.length_drop];have:s.data.toList.length=s.size:=by simp
  omega
 have h2:(⟨(Sp.tok (s.data.toList.drop k)).toArray⟩:ByteArray)=s.extract k (k+bf (s.data.toList.drop k)):=by apply J5;rw[Lib.extract_data];simp[Sp.tok]
 rw[h1,h2]
theorem zB(s:ByteArray)(k:Nat):(s.extract k s.size).data.toList=s.data.toList.drop k:=by rw[Lib.extract_data];apply List.take_of_length_le;simp
theorem tf(s:ByteArray)(k:Nat)(hk:k<=s.size):k+bf (s.data.toList.drop k)<=s.size:=by
 have:=fv (s.data.toList.drop k);rw[List.length_drop]at this;have h:s.data.toList.length=s.size:=by simp
 omega
theorem vM(s:ByteArray)(a:Nat)(w:Wd)(ha:a<=s.size)(hs:s.size<=400) :
  Calls prog 55 #[.string s,.int .i64 a] w fun e w'=>e=.returned (.agg (nu s (Sp.skip (s.data.toList.drop a))))/\Below w.heap.size w w':=by
 go_enter func55,ntmps55
 go_wp2
 go_loop [1] (fun n=>∃k:Nat,k<=s.size/\Hid (jf s.data.toList a k)/\n=.int .i64 k) (fun i=>s.size - (intOf i).toNat)
 case atStart=>exact⟨a,ha,rfl,rfl⟩
 case round =>
  obtain⟨k,hk,hm,rfl⟩:=hrel;have hx:Hid ((s.extract k s.size).data.toList=s.data.toList.drop k):=zB s k;have hv:Hid (nu s (s.data.toList.drop k)=#[.int .i64 k,.int .i64 (aC (s.data.toList.drop k)),.string (s.extract k (k+bf (s.data.toList.drop k)))]):=yH s k hk;have iw:=tf s k hk;have dI:(s.extract k s.size).size<=400:=by simp;omega
  have uh:=hid dI;clear dI;by_cases dj:k<s.size
  ·by_cases DW:((s[k].toNat:Int)=32)
   ·have uQ:Hid (jf s.data.toList a (k+1)):=hm.succ dj ((jI _).2 (.inl DW))
    clear iw;go_wp2_with fail;exact⟨⟨k+1,by omega,uQ,by go_num⟩,by simp[intOf];omega⟩
   ·by_cases hY:((s[k].toNat:Int)=10)
    ·have uQ:Hid (jf s.data.toList a (k+1)):=hm.succ dj ((jI _).2 (.inr hY))
     clear iw;go_wp2_with fail;exact⟨⟨k+1,by omega,uQ,by go_num⟩,by simp[intOf];omega⟩
    ·have gI:Hid (Sp.skip (s.data.toList.drop a)=s.data.toList.drop k):=hm.stop (fun _=>by
      cases hb:mC s[k]
      ·rfl
      ·exact absurd ((jI _).1 hb) (fun h=>h.elim DW hY))
     have aap:((s[k].toNat:Int) == 32)=false:=by simpa using DW
     have aar:((s[k].toNat:Int) == 10)=false:=by simpa using hY
     have aU:Hid (nu s (Sp.skip (s.data.toList.drop a))=#[.int .i64 k,.int .i64 (aC (s.data.toList.drop k)),.string (s.extract k (k+bf (s.data.toList.drop k)))]):=by unfold Hid;rw[gI.out,hv.out]
     clear gI hv hm;go_wp2_with fail;refine(pN _ _ uh.out).mono ?_;rintro e w'⟨rfl,rfl⟩;rw[hx.out];generalize bf (s.data.toList.drop k)=m at *;generalize aC (s.data.toList.drop k)=kd at *;go_wp2_with fail;refine bodyPost_ret (v:=.agg #[.int .i64 k,.int .i64 kd,.string (s.extract k (k+m))]) (by simp[results,results55,go_sem]) rfl ⟨by rw[aU.out],?_⟩;exact(Below.refl _ _).alloc (Nat.le_refl _) _
  ·have gI:Hid (Sp.skip (s.data.toList.drop a)=s.data.toList.drop k):=hm.stop (fun h=>absurd h dj)
   have aU:Hid (nu s (Sp.skip (s.data.toList.drop a))=#[.int .i64 k,.int .i64 (aC (s.data.toList.drop k)),.string (s.extract k (k+bf (s.data.toList.drop k)))]):=by unfold Hid;rw[gI.out,hv.out]
   clear gI hv hm;go_wp2_with fail;refine(pN _ _ uh.out).mono ?_;rintro e w'⟨rfl,rfl⟩;rw[hx.out];generalize bf (s.data.toList.drop k)=m at *;generalize aC (s.data.toList.drop k)=kd at *;go_wp2_with fail;refine bodyPost_ret (v:=.agg #[.int .i64 k,.int .i64 kd,.string (s.extract k (k+m))]) (by simp[results,results55,go_sem]) rfl ⟨by rw[aU.out],?_⟩;exact(Below.refl _ _).alloc (Nat.le_refl _) _
end
section
def rz(s:ByteArray)(m1 m2:Nat)(l:Sp.Bs)(o:Nat)(ct:Int × Int)(nv:Value):Array Value :=
 #[.string s,.int .i64 ((s.size - l.length:Nat):Int),.int .i64 (aC l),.string ⟨(Sp.tok l).toArray⟩,.int .i64 o,.int .i64 ct.1,.int .i64 ct.2,nv,.map (some m1),.map (some m2)]
namespace Sp
section
variable{ns:List Nat}
def ld(l:Bs):List Nat:=if aC l=3 then [bk (tok l)] else []
inductive jV (a:Bs):Bs->List Nat->Prop
 | nil:jV a a []
 | step {l:Bs} {ns:List Nat}:jV a l ns->jV a (next l) (ns ++ ld l)
theorem jV.len{a l:Bs}(h:jV a l ns):ns.length+l.length<=a.length:=by
 induction h with
 | nil=>simp
 | @step l ns h ih =>
  unfold ld;by_cases h3:aC l=3
  ·have:=fL (dc (.inr (.inl h3)))
   rw[if_pos h3,List.length_append,List.length_singleton];omega
  ·have:=cj l
   rw[if_neg h3,List.append_nil];omega
theorem jV.Js{a l:Bs}(h:jV a l ns)(h3:aC l≠3):jV a (next l) ns:=by
 have:=h.step
 rwa [ld,if_neg h3,List.append_nil]at this
theorem oM{l t:Bs}(h:tok l=t)(hd:t.head?.any bq=false):aC l≠3:=by
 intro h3;cases l with
 | nil=>simp[aC]at h3
 | cons c r =>
  rw[bX]at h3;by_cases h1:isLet c=true
  ·rw[if_pos h1]at h3;omega
  ·by_cases h2:bq c=true
   ·rw[if_neg h1,if_pos h2]at h3
    have:tok (c :: r)=c :: r.take (bN bq r):=by unfold tok;rw[eD,if_neg h1,if_pos h2,eo,if_pos h2,List.take_succ_cons]
    rw[<-h,this]at hd;simp[h2]at hd
   ·rw[if_neg h1,if_neg h2]at h3
    split at h3<;>omega
end
end Sp
def gu(ns:List Nat):List Value:=ns.map fun n=>.int .i16 ((n:Nat):Int)
structure sU(b:Nat)(s:ByteArray)(m1 m2:Nat)(l:Sp.Bs)(o:Nat)(ct:Int × Int)(nv:Value)(ns:List Nat)(w:Wd):Prop where
 aV:w.heap[b]?=some (.cells (rz s m1 m2 l o ct nv) 147)
 suf:l <:+ s.data.toList
 sz:s.size<=400
 row:w.ownsRow (b+1) 226 1 nv ns.length (gu ns)
def Rd(b:Nat)(s:ByteArray)(m1 m2:Nat)(l:Sp.Bs)(o:Nat)(ct:Int × Int)(w:Wd):Prop :=
 ∃nv ns,sU b s m1 m2 l o ct nv ns w/\jV (Sp.skip s.data.toList) l ns
section
variable {b : Nat}{s : ByteArray}{m1 m2 : Nat}{l : Sp.Bs}{o : Nat}{ct : Int × Int}{nv : Value}{ns : List Nat}{w : Wd}
section
variable{w':Wd}
theorem sU.len(h:sU b s m1 m2 l o ct nv ns w):l.length<=s.size:=by have:=h.suf.length_le;simpa using this
theorem sU.lt(h:sU b s m1 m2 l o ct nv ns w):b<w.heap.size:=ah h.aV
theorem sU.fz(h:sU b s m1 m2 l o ct nv ns w)(i:Nat):w.frozen? ⟨b,i,none⟩=false:=aw h.aV i
theorem Rd.sz(h:Rd b s m1 m2 l o ct w):s.size<=400:=by obtain⟨_,_,h,_⟩:=h;exact h.sz
theorem Rd.len(h:Rd b s m1 m2 l o ct w):l.length<=s.size:=by obtain⟨_,_,h,_⟩:=h;exact h.len
theorem Rd.lt(h:Rd b s m1 m2 l o ct w):b<w.heap.size:=by obtain⟨_,_,h,_⟩:=h;exact h.lt
theorem Rd.c1(h:Rd b s m1 m2 l o ct w):w.cell? ⟨b,1,none⟩=some (.int .i64 ((s.size - l.length:Nat):Int)):=by obtain⟨_,_,h,_⟩:=h;exact cell_of h.aV 1 rfl
theorem Rd.c2(h:Rd b s m1 m2 l o ct w):w.cell? ⟨b,2,none⟩=some (.int .i64 (aC l)):=by obtain⟨_,_,h,_⟩:=h;exact cell_of h.aV 2 rfl
theorem Rd.c3(h:Rd b s m1 m2 l o ct w):w.cell? ⟨b,3,none⟩=some (.string ⟨(Sp.tok l).toArray⟩):=by obtain⟨_,_,h,_⟩:=h;exact cell_of h.aV 3 rfl
theorem Rd.c4(h:Rd b s m1 m2 l o ct w):w.cell? ⟨b,4,none⟩=some (.int .i64 o):=by obtain⟨_,_,h,_⟩:=h;exact cell_of h.aV 4 rfl
theorem Rd.c5(h:Rd b s m1 m2 l o ct w):w.cell? ⟨b,5,none⟩=some (.int .i64 ct.1):=by obtain⟨_,_,h,_⟩:=h;exact cell_of h.aV 5 rfl
theorem Rd.c6(h:Rd b s m1 m2 l o ct w):w.cell? ⟨b,6,none⟩=some (.int .i64 ct.2):=by obtain⟨_,_,h,_⟩:=h;exact cell_of h.aV 6 rfl
theorem Rd.c7(h:Rd b s m1 m2 l o ct w):w.cell? ⟨b,8,none⟩=some (.map (some m1)):=by obtain⟨_,_,h,_⟩:=h;exact cell_of h.aV 8 rfl
theorem Rd.c8(h:Rd b s m1 m2 l o ct w):w.cell? ⟨b,9,none⟩=some (.map (some m2)):=by obtain⟨_,_,h,_⟩:=h;exact cell_of h.aV 9 rfl
theorem Rd.fz(h:Rd b s m1 m2 l o ct w)(i:Nat):w.frozen? ⟨b,i,none⟩=false:=by obtain⟨_,_,h,_⟩:=h;exact h.fz i
theorem lP{n:Nat}{vs:List Value}(h:w.ownsRow (b+1) 226 1 nv n vs)(hn:∀k,b<k->k<w.heap.size->nV w.heap[k]?->w'.heap[k]?=w.heap[k]?):w'.ownsRow (b+1) 226 1 nv n vs:=by
 obtain⟨h1,h2⟩:=h;refine⟨h1,?_⟩
 rcases h2 with h2 | ⟨g,cap,cur,e,hb,hh,r⟩
 ·exact .inl h2
 ·exact .inr ⟨g,cap,cur,e,hb,by rw[hn g (by omega) (ah hh) (by rw[hh];exact⟨_,_,rfl⟩)];exact hh,r⟩
theorem sU.bF(h:sU b s m1 m2 l o ct nv ns w)(hb:w'.heap[b]?=w.heap[b]?)(hn:∀k,b<k->k<w.heap.size->nV w.heap[k]?->w'.heap[k]?=w.heap[k]?):sU b s m1 m2 l o ct nv ns w' :=
 ⟨by rw[hb];exact h.aV,h.suf,h.sz,lP h.row hn⟩
theorem Rd.bF(h:Rd b s m1 m2 l o ct w)(hb:w'.heap[b]?=w.heap[b]?)(hn:∀k,b<k->k<w.heap.size->nV w.heap[k]?->w'.heap[k]?=w.heap[k]?):Rd b s m1 m2 l o ct w':=by obtain⟨nv,ns,h,hl⟩:=h;exact⟨nv,ns,h.bF hb hn,hl⟩
theorem sU.own(h:sU b s m1 m2 l o ct nv ns w)(i:Nat)(v:Value){l':Sp.Bs}{o':Nat}{bh:Int × Int}(hs:l' <:+ s.data.toList)(e:(rz s m1 m2 l o ct nv).setIfInBounds i v=rz s m1 m2 l' o' bh nv):sU b s m1 m2 l' o' bh nv ns (w.setCell ⟨b,i,none⟩ v) :=
 ⟨by rw[ai h.aV i v,e],hs,h.sz,lP h.row (fun k hk _ _=>Below.heap_setCell _ _ _ _ (by show k≠b;omega))⟩
end
end
section
variable{s:ByteArray}
variable{b m1 m2 o:Nat}
variable{w w1 w':Wd}
variable{l t:Sp.Bs}
variable{ct:Int × Int}
variable{nv:Value}
variable{ns:List Nat}
def bB(s:ByteArray)(b:Nat)(w:Wd)(er:Nat × Nat)(e:Ending)(w':Wd):Prop :=
 ∃N,e=.panicked [{ v:=.iface 90 (.pointer (some ⟨N,0,none⟩)),recovered:=false }]/\w'.heap[N]?=some (.cells #[.int .i64 ((s.size - er.2:Nat):Int),.int .i64 er.1] 96)/\Ext b w w'/\N≠b/\w.heap.size<=N
theorem bB.ahead{er:Nat × Nat}{e:Ending}(h:Ext b w w1)(k:bB s b w1 er e w'):bB s b w er e w':=by obtain⟨N,h1,h2,h3,h4,h5⟩:=k;exact⟨N,h1,h2,h.trans h3,h4,Nat.le_trans h.size h5⟩
theorem eA(h:Rd b s m1 m2 l o ct w)(er:Int) :
  Calls prog 90 #[.pointer (some ⟨b,0,none⟩),.int .i64 er] w fun e w' =>
   e=.returned (.pointer (some ⟨w.heap.size,0,none⟩))/\w'=w.alloc (.cells #[.int .i64 ((s.size - l.length:Nat):Int),.int .i64 er] 96):=by
 have h1:=h.c1;go_enter func90,ntmps90
 go_wp2
 go_ret;exact⟨rfl,rfl⟩
theorem gp(h:Rd b s m1 m2 l o ct w)(er:Nat)(ei:Int)(he:ei=er) :
  bB s b w (er,l.length) (.panicked [{ v:=.iface 90 (.pointer (some ⟨w.heap.size,0,none⟩)),recovered:=false }]) (w.alloc (.cells #[.int .i64 ((s.size - l.length:Nat):Int),.int .i64 ei] 96)):=by
 subst he;refine⟨w.heap.size,rfl,heap_alloc_new _ _,(Ext.refl b w).alloc _,?_,Nat.le_refl _⟩;have:=h.lt;omega
theorem gO(h:Sp.tok l≠t):(Sp.tok l == t)=false:=by simpa using h
theorem Af(h:Rd b s m1 m2 l o ct w)(t:Sp.Bs)(ht:Sp.tok l=t) :
  Calls prog 231 #[.pointer (some ⟨b,0,none⟩),.string ⟨t.toArray⟩] w fun e w'=>e=.returned (.tuple #[])/\w'=w:=by
 have h3:=h.c3;subst ht;go_enter func231,ntmps231;go_wp2_with fail
 go_end0
 exact⟨rfl,rfl⟩
theorem CU(h:Rd b s m1 m2 l o ct w)(t:Sp.Bs)(ht:Sp.tok l≠t) :
  Calls prog 231 #[.pointer (some ⟨b,0,none⟩),.string ⟨t.toArray⟩] w fun e w'=>bB s b w (2,l.length) e w':=by
 have h3:=h.c3;have hb:=gO ht;go_enter func231,ntmps231;go_wp2_with fail;refine(eA h 2).mono ?_;rintro e w'⟨rfl,rfl⟩;go_wp2_with fail;exact⟨rfl,gp h 2 2 rfl⟩
theorem sU.drop_eq(h:sU b s m1 m2 l o ct nv ns w):s.data.toList.drop (s.size - l.length+bf l)=l.drop (bf l):=by
 obtain⟨p,hp⟩:=h.suf;have hs:s.size=p.length+l.length:=by
  have:s.data.toList.length=s.size:=by simp
  rw[<-this,<-hp,List.length_append]
 rw[<-hp,hs];rw[List.drop_append];rw[List.drop_of_length_le (by omega),List.nil_append];congr 1;omega
theorem GX(h:Rd b s m1 m2 l o ct w)(hb:Below w.heap.size w w1):Rd b s m1 m2 l o ct w1 :=
 h.bF (hb.block b h.lt) (fun k _ hk _=>hb.block k hk)
theorem zR(h:sU b s m1 m2 l o ct nv ns w)(hb:Below w.heap.size w w1):sU b s m1 m2 l o ct nv ns w1 :=
 h.bF (hb.block b h.lt) (fun k _ hk _=>hb.block k hk)
theorem JB(h:sU b s m1 m2 l o ct nv ns w)(hb:Below w.heap.size w w1)(l':Sp.Bs)(Hx:l' <:+ s.data.toList) :
  sU b s m1 m2 l' o ct nv ns (((w1.setCell ⟨b,1,none⟩ (.int .i64 ((s.size - l'.length:Nat):Int))).setCell ⟨b,2,none⟩ (.int .i64 (aC l'))).setCell ⟨b,3,none⟩ (.string ⟨(Sp.tok l').toArray⟩)) /\
  Ext b w (((w1.setCell ⟨b,1,none⟩ (.int .i64 ((s.size - l'.length:Nat):Int))).setCell ⟨b,2,none⟩ (.int .i64 (aC l'))).setCell ⟨b,3,none⟩ (.string ⟨(Sp.tok l').toArray⟩)):=by
 have h1:=zR h hb;have x0:Ext b w w1:=Ext.aB hb;have x1:Ext b w (w1.setCell ⟨b,1,none⟩ (.int .i64 ((s.size - l'.length:Nat):Int))):=x0.setCell (p:=⟨b,1,none⟩) (.inl rfl) _;have x2:=x1.setCell (p:=⟨b,2,none⟩) (.inl rfl) (.int .i64 (aC l'));have x3:=x2.setCell (p:=⟨b,3,none⟩) (.inl rfl) (.string ⟨(Sp.tok l').toArray⟩);refine⟨⟨?_,Hx,h.sz,?_⟩,x3⟩
 ·have e:=ai (ai (ai h1.aV 1 (.int .i64 ((s.size - l'.length:Nat):Int))) 2 (.int .i64 (aC l'))) 3 (.string ⟨(Sp.tok l').toArray⟩)
  rw[e];rfl
 ·refine lP h1.row (fun k hk _ _=>?_)
  rw[Below.heap_setCell _ _ _ _ (by show k≠b;omega),Below.heap_setCell _ _ _ _ (by show k≠b;omega),Below.heap_setCell _ _ _ _ (by show k≠b;omega)]
theorem qU(h:Below w.drew.heap.size w.drew w1):Below w.heap.size w w1:=⟨h.os,h.tape,h.output,h.size,h.block⟩
theorem MK(h:sU b s m1 m2 l o ct nv ns w)(hb:Below w.drew.heap.size w.drew w1) :
  w1.cell? ⟨b,1,none⟩=some (.int .i64 ((s.size - l.length:Nat):Int))/\w1.cell? ⟨b,2,none⟩=some (.int .i64 (aC l))/\w1.cell? ⟨b,3,none⟩=some (.string ⟨(Sp.tok l).toArray⟩)/\w1.frozen? ⟨b,1,none⟩=false/\w1.frozen? ⟨b,2,none⟩=false/\w1.frozen? ⟨b,3,none⟩=false:=by
 have h1:=zR h (qU hb);exact⟨cell_of h1.aV 1 rfl,cell_of h1.aV 2 rfl,cell_of h1.aV 3 rfl,h1.fz 1,h1.fz 2,h1.fz 3⟩
theorem ze(s:ByteArray)(l:Sp.Bs):Value.agg (nu s l)=.agg #[.int .i64 ((s.size - l.length:Nat):Int),.int .i64 (aC l),.string ⟨(Sp.tok l).toArray⟩]:=rfl
end
end
section
variable{b m1 m2 o B v base n k m j N:Nat}
variable{s:ByteArray}
variable{l t:Sp.Bs}
variable{ct:Int × Int}
variable{nv x y:Value}
variable{ns:List Nat}
variable{w w' w3:Wd}
variable{A:eW}
theorem oQ(h:sU b s m1 m2 l o ct nv ns w) :
  Calls prog 232 #[.pointer (some ⟨b,0,none⟩)] w fun e w'=>e=.returned (.tuple #[])/\sU b s m1 m2 (Sp.next l) o ct nv ns w'/\Ext b w w':=by
 have h0:w.cell? ⟨b,0,none⟩=some (.string s):=cell_of h.aV 0 rfl;have h1:w.cell? ⟨b,1,none⟩=some (.int .i64 ((s.size - l.length:Nat):Int)):=cell_of h.aV 1 rfl;have h3:w.cell? ⟨b,3,none⟩=some (.string ⟨(Sp.tok l).toArray⟩):=cell_of h.aV 3 rfl;have hlen:=h.len;have dI:=h.sz;have Kl:=dR l;have hle:=fv l;have ha:s.size - l.length+bf l<=s.size:=by omega
 have Xz:Hid (IntKind.i64.wrap (((s.size - l.length:Nat):Int)+((bf l:Nat):Int))=((s.size - l.length+bf l:Nat):Int)):=by unfold Hid;rw[IntWalk.i64_in _ (by omega)];omega
 have hd:Hid (Sp.skip (s.data.toList.drop (s.size - l.length+bf l))=Sp.next l):=by unfold Hid;rw[h.drop_eq];rfl
 have aas:Sp.next l <:+ s.data.toList:=(oH l).trans h.suf;go_enter func232,ntmps232
 go_region_with (go_at_call 55;go_must (rw[Xz.out]);go_must (refine(vM s _ _ ha dI).mono ?_);go_must (rintro e w1 ⟨rfl,hb⟩);go_must (rw[hd.out,ze]);obtain⟨k1,k2,k3,f1,f2,f3⟩:=MK h hb)
 all_goals
  go_end0
  exact⟨rfl,JB h (qU hb) _ aas⟩
theorem gQ(h:Rd b s m1 m2 l o ct w)(h3:aC l≠3) :
  Calls prog 232 #[.pointer (some ⟨b,0,none⟩)] w fun e w'=>e=.returned (.tuple #[])/\Rd b s m1 m2 (Sp.next l) o ct w'/\Ext b w w':=by
 obtain⟨nv,ns,h,hl⟩:=h;refine(oQ h).mono ?_;rintro e w'⟨rfl,h1,x1⟩;exact⟨rfl,⟨nv,ns,h1,hl.Js h3⟩,x1⟩
def eu(a:Nat)(t:Sp.Bs):Nat:=t.foldl (fun a c=>a*10+(c.toNat - 48)) a
theorem vj:∀(t:Sp.Bs) (a:Nat),a<=eu a t
 | [],_=>Nat.le_refl _
 | c :: r,a=>by have:=vj r (a*10+(c.toNat - 48));have e:eu a (c :: r)=eu (a*10+(c.toNat - 48)) r:=rfl;rw[e];omega
theorem MB(M:Nat)(hM:M<1844674407370955162):∀(t:Sp.Bs) (a:Nat),a<=M->(∀c∈t,bq c=true)->Lib.parseUintM M a t=if eu a t<=M then .ok (eu a t) else .range
 | [],a,ha,_=>by have:eu a []=a:=rfl;rw[this,if_pos ha];rfl
 | c :: r,a,ha,hd=>by
  have hc:48<=c.toNat/\c.toNat<=57:=by have:=hd c (by simp);unfold bq at this;simpa using this
  have e:eu a (c :: r)=eu (a*10+(c.toNat - 48)) r:=rfl;have h1:Lib.parseUintM M a (c :: r)=if 1844674407370955162<=a then .range else if M<a*10+(c.toNat - 48) then .range else Lib.parseUintM M (a*10+(c.toNat - 48)) r:=by show(if 48<=c.toNat/\c.toNat<=57 then _ else _)=_;rw[if_pos hc]
  rw[h1,if_neg (by omega),e];by_cases hm:M<a*10+(c.toNat - 48)
  ·rw[if_pos hm,if_neg]
   have:=vj r (a*10+(c.toNat - 48));omega
  ·rw[if_neg hm]
   exact MB M hM r _ (by omega) (fun d hdm=>hd d (by simp[hdm]))
theorem ry(t:Sp.Bs)(db:t≠[])(hd:∀c∈t,bq c=true):Lib.parseIntB 16 t=if bk t<=32767 then .ok ((bk t:Nat):Int) else .range:=by
 cases t with
 | nil=>exact absurd rfl db
 | cons c r =>
  have hc:48<=c.toNat/\c.toNat<=57:=by have:=hd c (by simp);unfold bq at this;simpa using this
  have h1:Lib.parseUintB 16 (c :: r)=if eu 0 (c :: r)<=65535 then .ok (eu 0 (c :: r)) else .range:=by unfold Lib.parseUintB;rw[if_neg (by simp)];exact MB 65535 (by omega) (c :: r) 0 (by omega) hd
  have e0:bk (c :: r)=eu 0 (c :: r):=rfl;unfold Lib.parseIntB;simp only;rw[if_neg (by omega),h1,e0];by_cases h2:eu 0 (c :: r)<=65535
  ·rw[if_pos h2]
   simp only;by_cases h3:eu 0 (c :: r)<=32767
   ·rw[if_neg (by simp;omega),if_neg (by omega),if_neg (by omega),if_pos h3]
   ·rw[if_pos (by simp;omega),if_neg h3]
  ·rw[if_neg h2,if_neg (by omega)]
theorem pR(p:UInt8->Bool):∀(l:Sp.Bs),∀c∈l.takeWhile p,p c=true
 | [],c,h=>by simp at h
 | d :: r,c,h=>by
  rw[List.takeWhile_cons]at h;split at h
  ·rename_i hd
   rcases List.mem_cons.1 h with rfl | h
   ·exact hd
   ·exact pR p r c h
  ·simp at h
theorem Ak(p:UInt8->Bool)(l:Sp.Bs):l.take (bN p l)=l.takeWhile p:=by unfold bN;exact(List.prefix_iff_eq_take.1 (List.takeWhile_prefix p)).symm
theorem dp(h:aC l=3):Sp.tok l≠[]/\∀c∈Sp.tok l,bq c=true:=by
 refine⟨fun e=>?_,?_⟩
 ·have:=dc (l:=l) (.inr (.inl h))
  rw[<-dR,e]at this;simp at this
 ·cases l with
  | nil=>simp[aC]at h
  | cons c r =>
   have hk:=bX c r;have hl:=eD c r;by_cases h1:Sp.isLet c=true
   ·rw[h,if_pos h1]at hk;omega
   ·by_cases h2:bq c=true
    ·rw[if_neg h1,if_pos h2]at hl
     unfold Sp.tok;rw[hl,Ak];exact pR _ _
    ·rw[h,if_neg h1,if_neg h2]at hk
     split at hk<;>omega
theorem nf(t:Sp.Bs):(⟨t.toArray⟩:ByteArray).size=t.length:=by simp[ByteArray.size]
theorem tA(t:Sp.Bs)(db:t≠[])(hd:∀c∈t,bq c=true)(hl:t.length<=400)(hv:bk t<=32767)(w:Wd) :
  Calls prog 260 #[.string ⟨t.toArray⟩,.int .i64 10,.int .i64 16] w fun e w'=>e=.returned (.tuple #[.int .i64 ((bk t:Nat):Int),.nilIface])/\Below w.heap.size w w':=by
 have hp:=ry t db hd;rw[if_pos hv]at hp;refine(strconv_ParseInt_10_at16_ok ⟨t.toArray⟩ (by rw[nf];omega) ((bk t:Nat):Int) (by simpa using hp) w).mono ?_;rintro e w'⟨rfl,h⟩;refine⟨rfl,?_⟩
 rcases h with rfl | ⟨u,rfl⟩
 ·exact Below.refl _ _
 ·exact Lib.bytesWorld_below _ _ _
theorem wh(t:Sp.Bs)(db:t≠[])(hd:∀c∈t,bq c=true)(hl:t.length<=400)(hv:¬ bk t<=32767)(w:Wd)(hL:Laid w) :
  Calls prog 260 #[.string ⟨t.toArray⟩,.int .i64 10,.int .i64 16] w fun e w'=>∃(n:Int) (N:Nat),e=.returned (.tuple #[.int .i64 n,.iface 436 (.pointer (some ⟨N,0,none⟩))])/\Below w.heap.size w w':=by
 have hp:=ry t db hd;rw[if_neg hv]at hp;obtain⟨tp,p,hc⟩:=hL.errR;refine(strconv_ParseInt_10_at16_range ⟨t.toArray⟩ (by rw[nf];omega) (by simpa using hp) (.iface tp p) w hc (.inr ⟨tp,p,rfl⟩)).mono ?_;rintro e w'⟨N,rfl,_,_,hb⟩;exact⟨_,N,rfl,hb⟩
theorem Laid.below(h:Laid w)(hb:Below B w w')(hB:11<=B):Laid w':=by
 have:=h.size;have:=hb.size;refine⟨by omega,fun k hk=>?_,fun k hk=>?_,?_,?_,?_⟩
 ·rw[hb.cell (by show 1<B;omega)];exact h.ops k hk
 ·rw[hb.cell (by show 2<B;omega)];exact h.rels k hk
 ·rw[hb.cell (by show 9<B;omega)];exact h.errS
 ·rw[hb.cell (by show 10<B;omega)];exact h.errR
 ·exact var?_below hb (g:=6) (by kernel_rfl) (by omega) h.pow
theorem sR(hk:aC l=3)(hlen:l.length<=400):∃t:ByteArray,t=⟨(Sp.tok l).toArray⟩/\t.size=(Sp.tok l).length/\0<t.size/\(Sp.tok l).length<=400/\∀hh:0<t.size,((Sp.tok l).head?=some 48↔(t[0].toNat:Int)=48):=by
 obtain⟨db,_⟩:=dp hk;refine⟨⟨(Sp.tok l).toArray⟩,rfl,nf _,?_,?_,?_⟩
 ·rw[nf];exact List.length_pos_iff.2 db
 ·have:=dR l;have:=fv l;omega
 ·intro hh
  have e:(Sp.tok l).head?=some ((⟨(Sp.tok l).toArray⟩:ByteArray)[0]):=by have:=byte_at ⟨(Sp.tok l).toArray⟩ 0 hh;simp at this;rw[List.head?_eq_getElem?];exact this
  rw[e];generalize (⟨(Sp.tok l).toArray⟩:ByteArray)[0]=c;constructor
  ·intro h
   cases h;rfl
  ·intro h
   congr 1;apply UInt8.toNat_inj.1;show c.toNat=48;omega
theorem oL(hv:fE t=some v):¬ (1<t.length/\t.head?=some 48)/\bk t<=32767/\v=bk t:=by
 unfold fE at hv;split at hv
 ·cases hv
 ·rename_i hn
  split at hv
  ·rename_i hle
   cases hv;exact⟨hn,hle,rfl⟩
  ·cases hv
theorem Ch(hv:fE t=none):¬ bk t<=32767∨(bk t<=32767/\1<t.length/\t.head?=some 48):=by
 unfold fE at hv;split at hv
 ·rename_i hn
  by_cases h:bk t<=32767
  ·exact .inr ⟨h,hn⟩
  ·exact .inl h
 ·split at hv
  ·cases hv
  ·rename_i h;exact .inl h
theorem Em:(prog.info? 226).map (fun i=>(i.zero,i.size,i.bytes))=some (some (.int .i16 0),1,2):=by kernel_rfl
theorem yK{e:TypeId}{v:Value}{vs:List Value}(h:w.ownsRow base e 1 v (n+1) vs):∃g cap,v=.slice (some ⟨g,0,none⟩) (n+1) cap:=by
 rcases h.2 with⟨_,h⟩ | ⟨g,cap,cur,rfl,_⟩
 ·omega
 ·exact⟨g,cap,rfl⟩
theorem GW{ob:Obj}(h:sU b s m1 m2 l o ct nv ns w)(d:Nat)(v':Value)
  (jG:w3.ownsRow (b+1) 226 1 v' (ns.length+1) (gu ns ++ [.int .i16 ((d:Nat):Int)])) (hg:(w.alloc ob).grownBy w3 nv.ownBlock) :
  w3.heap[b]?=some (.cells (rz s m1 m2 l o ct nv) 147)/\sU b s m1 m2 l o ct v' (ns ++ [d]) (w3.setCell ⟨b,7,none⟩ v')/\Ext b w (w3.setCell ⟨b,7,none⟩ v'):=by
 have Ns:∀k,nv.ownBlock=some k->b<k/\nV w.heap[k]?:=by
  intro k hk
  rcases h.row.2 with⟨rfl,_⟩ | ⟨g',cap,cur,rfl,hb,hh,_⟩
  ·simp[Value.ownBlock]at hk
  ·simp[Value.ownBlock]at hk
   subst hk;exact⟨hb,by rw[hh];exact⟨_,_,rfl⟩⟩
 have dj:=h.lt;have hs:w.heap.size+1<=w3.heap.size:=by have:=hg.size;simpa using this
 have NM:∀k,k<w.heap.size->nv.ownBlock≠some k->w3.heap[k]?=w.heap[k]?:=fun k hk db=>by rw[hg.block k (by simp;omega) (fun e=>db e.symm)];exact Below.heap_alloc _ _ _ hk
 have e:w3.heap[b]?=some (.cells (rz s m1 m2 l o ct nv) 147):=by rw[NM b dj (fun e=>by have:=(Ns b e).1;omega)];exact h.aV
 refine⟨e,⟨?_,h.suf,h.sz,?_⟩,⟨hg.os,hg.tape,hg.output,by simp[World.setCell];omega,fun k hk hb hn=>?_⟩⟩
 ·rw[ai e 7 v'];rfl
 ·have:=lP (b:=b) (w':=w3.setCell ⟨b,7,none⟩ v') jG (fun k hk _ _=>Below.heap_setCell _ _ _ _ (by show k≠b;omega))
  rw[List.length_append,List.length_singleton];unfold gu at *;rw[List.map_append];exact this
 ·rw[Below.heap_setCell _ _ _ _ (by show k≠b;exact hb)]
  exact NM k hk (fun e=>hn (Ns k e).1 (Ns k e).2)
theorem IZ(h:Rd b s m1 m2 l o ct w)(hk:aC l=3)(hv:fE (Sp.tok l)=some v) :
  Calls prog 252 #[.pointer (some ⟨b,0,none⟩)] w fun e w'=>e=.returned (.int .i16 v)/\Rd b s m1 m2 (Sp.next l) o ct w'/\Ext b w w':=by
 obtain⟨nv,ns,h,hl⟩:=h;obtain⟨i0,hi,Hq,gT,ek⟩:=info_parts Em;obtain⟨db,hd⟩:=dp hk;obtain⟨hn,hle,rfl⟩:=oL hv;obtain⟨t,et,dI,h0,hlen,hx⟩:=sR hk (by have:=h.len;have:=h.sz;omega);have hx:=hx h0;have h3:w.cell? ⟨b,3,none⟩=some (.string t):=by rw[et];exact cell_of h.aV 3 rfl
 have HP:Hid (∀w:Wd,Calls prog 260 #[.string t,.int .i64 10,.int .i64 16] w fun e w'=>e=.returned (.tuple #[.int .i64 ((bk (Sp.tok l):Nat):Int),.nilIface])/\Below w.heap.size w w'):=by rw[et];exact tA (Sp.tok l) db hd hlen hle
 have HL:Hid (jV (Sp.skip s.data.toList) (Sp.next l) (ns ++ [bk (Sp.tok l)])):=by
  have:=hl.step
  rwa [ld,if_pos hk]at this
 have nX:ns.length<=400:=by
  have h1:=hl.len;have h2:=ri s.data.toList;have h3:=h.sz;have:s.data.toList.length=s.size:=by simp
  omega
 clear hl;generalize bk (Sp.tok l)=d at *;by_cases h1:1<t.size
 ·have Qh:¬ ((t[0].toNat:Int)=48):=fun e=>hn ⟨by omega,hx.2 e⟩
  have b48:((t[0].toNat:Int) == 48)=false:=by simpa using Qh
  clear hx hn dI hd db hk hv et;go_enter func252,ntmps252;go_wp2_with fail;refine(HP.out _).mono ?_;rintro e w1⟨rfl,hb⟩;go_wp2_with fail;refine(oQ (zR h hb)).mono ?_;rintro e w2⟨rfl,h2,x2⟩;have c7:w2.cell? ⟨b,7,none⟩=some nv:=cell_of h2.aV 7 rfl;have DE:=h2.lt;go_wp2_with (first
   | (at_builtin;refine wpList_append_own_at _ rfl _ _ 84 rfl (b+1) 226 i0 (.int .i16 0) 1 2 underlying84 hi Hq gT ek rfl (by decide) nv ns.length (gu ns) rfl (h2.row.alloc _) ⟨w2.heap.size,0,none⟩ 1 1 [.int .i16 (d:Nat)] rfl rfl (cell_one_new _ _ _) ?q1 ?q2 ?q3 ?q4 ?_))
  case q1=>intro u hu;simp at hu;subst hu;rfl
  case q2=>unfold maxLen;omega
  case q3=>omega
  case q4=>simp;omega
  intro v' w3 ir eM _ _;obtain⟨g3,NT,rfl⟩:=yK ir;obtain⟨D0,zp,x3⟩:=GW h2 d _ ir eM;have c3:w3.cell? ⟨b,7,none⟩=some nv:=cell_of D0 7 rfl;have f3:=aw D0 7;have H3:Hid (sU b s m1 m2 (Sp.next l) o ct _ (ns ++ [d]) (w3.setCell ⟨b,7,none⟩ (.slice (some ⟨g3,0,none⟩) (ns.length+1) NT))/\Ext b w2 (w3.setCell ⟨b,7,none⟩ (.slice (some ⟨g3,0,none⟩) (ns.length+1) NT))):=⟨zp,x3⟩;clear zp x3 D0 ir eM;go_wp2_with fail;go_ret;exact⟨rfl,⟨_,_,H3.1,HL.out⟩,((Ext.aB hb).trans x2).trans H3.2⟩
 ·have nM:¬ (1:Int)<(t.size:Int):=by omega
  clear hx hn dI hd db hk hv et;go_enter func252,ntmps252;go_wp2_with fail;refine(HP.out _).mono ?_;rintro e w1⟨rfl,hb⟩;go_wp2_with fail;refine(oQ (zR h hb)).mono ?_;rintro e w2⟨rfl,h2,x2⟩;have c7:w2.cell? ⟨b,7,none⟩=some nv:=cell_of h2.aV 7 rfl;have DE:=h2.lt;go_wp2_with (first
   | (at_builtin;refine wpList_append_own_at _ rfl _ _ 84 rfl (b+1) 226 i0 (.int .i16 0) 1 2 underlying84 hi Hq gT ek rfl (by decide) nv ns.length (gu ns) rfl (h2.row.alloc _) ⟨w2.heap.size,0,none⟩ 1 1 [.int .i16 (d:Nat)] rfl rfl (cell_one_new _ _ _) ?q1 ?q2 ?q3 ?q4 ?_))
  case q1=>intro u hu;simp at hu;subst hu;rfl
  case q2=>unfold maxLen;omega
  case q3=>omega
  case q4=>simp;omega
  intro v' w3 ir eM _ _;obtain⟨g3,NT,rfl⟩:=yK ir;obtain⟨D0,zp,x3⟩:=GW h2 d _ ir eM;have c3:w3.cell? ⟨b,7,none⟩=some nv:=cell_of D0 7 rfl;have f3:=aw D0 7;have H3:Hid (sU b s m1 m2 (Sp.next l) o ct _ (ns ++ [d]) (w3.setCell ⟨b,7,none⟩ (.slice (some ⟨g3,0,none⟩) (ns.length+1) NT))/\Ext b w2 (w3.setCell ⟨b,7,none⟩ (.slice (some ⟨g3,0,none⟩) (ns.length+1) NT))):=⟨zp,x3⟩;clear zp x3 D0 ir eM;go_wp2_with fail;go_ret;exact⟨rfl,⟨_,_,H3.1,HL.out⟩,((Ext.aB hb).trans x2).trans H3.2⟩
theorem Fq(h:Rd b s m1 m2 l o ct w)(hL:Laid w)(hk:aC l=3)(hv:fE (Sp.tok l)=none) :
  Calls prog 252 #[.pointer (some ⟨b,0,none⟩)] w fun e w'=>bB s b w (2,l.length) e w':=by
 obtain⟨db,hd⟩:=dp hk;obtain⟨t,et,dI,h0,hlen,hx⟩:=sR hk (by have:=h.len;have:=h.sz;omega);have hx:=hx h0;have h3:w.cell? ⟨b,3,none⟩=some (.string t):=by rw[h.c3,et]
 rcases Ch hv with hle | ⟨hle,h1,Qh⟩
 ·have HP:Hid (Calls prog 260 #[.string t,.int .i64 10,.int .i64 16] w fun e w'=>∃(n:Int) (N:Nat),e=.returned (.tuple #[.int .i64 n,.iface 436 (.pointer (some ⟨N,0,none⟩))])/\Below w.heap.size w w'):=by
   rw[et];exact wh (Sp.tok l) db hd hlen hle w hL
  clear hx dI hd db hk hv et hle;go_enter func252,ntmps252;go_wp2_with fail;refine(HP.out).mono ?_;rintro e w1⟨n,N,rfl,hb⟩;go_wp2_with fail;refine(eA (GX h hb) 2).mono ?_;rintro e w'⟨rfl,rfl⟩;go_wp2_with fail;exact⟨rfl,bB.ahead (Ext.aB hb) (gp (GX h hb) 2 2 rfl)⟩
 ·have HP:Hid (∀w:Wd,Calls prog 260 #[.string t,.int .i64 10,.int .i64 16] w fun e w'=>e=.returned (.tuple #[.int .i64 ((bk (Sp.tok l):Nat):Int),.nilIface])/\Below w.heap.size w w'):=by
   rw[et];exact tA (Sp.tok l) db hd hlen hle
  generalize bk (Sp.tok l)=d at *;have nM:1<t.size:=by omega
  have e48:(t[0].toNat:Int)=48:=hx.1 Qh;have b48:((t[0].toNat:Int) == 48)=true:=by simpa using e48
  clear hx dI hd db hk hv et h1 Qh e48;go_enter func252,ntmps252;go_wp2_with fail;refine(HP.out _).mono ?_;rintro e w1⟨rfl,hb⟩;go_wp2_with fail;refine(eA (GX h hb) 2).mono ?_;rintro e w'⟨rfl,rfl⟩;go_wp2_with fail;exact⟨rfl,bB.ahead (Ext.aB hb) (gp (GX h hb) 2 2 rfl)⟩
theorem dx(h:Rd b s m1 m2 l o ct w)(t:Sp.Bs)(ht:Sp.tok l=t)(hd:t.head?.any bq=false:=by decide) :
  Calls prog 202 #[.pointer (some ⟨b,0,none⟩),.string ⟨t.toArray⟩] w fun e w'=>e=.returned (.tuple #[])/\Rd b s m1 m2 (Sp.next l) o ct w'/\Ext b w w':=by
 go_enter func202,ntmps202;go_wp2_with fail;refine(Af h t ht).mono ?_;rintro e w'⟨rfl,rfl⟩;go_wp2_with fail;refine(gQ h (oM ht hd)).mono ?_;rintro e w'⟨rfl,h1,x1⟩;go_wp2_with fail
 go_end0
 exact⟨rfl,h1,x1⟩
theorem lU(h:Rd b s m1 m2 l o ct w)(t:Sp.Bs)(ht:Sp.tok l≠t) :
  Calls prog 202 #[.pointer (some ⟨b,0,none⟩),.string ⟨t.toArray⟩] w fun e w'=>bB s b w (2,l.length) e w':=by
 go_enter func202,ntmps202;go_wp2_with fail;refine(CU h t ht).mono ?_;rintro e w' hf;obtain⟨N,rfl,hr⟩:=hf;exact⟨rfl,N,rfl,hr⟩
theorem uz(h:Rd b s m1 m2 l o ct w)(o':Nat)(oi:Int)(ho:oi=o') :
  Rd b s m1 m2 l o' ct (w.setCell ⟨b,4,none⟩ (.int .i64 oi))/\Ext b w (w.setCell ⟨b,4,none⟩ (.int .i64 oi)):=by
 subst ho;obtain⟨nv,ns,h,hl⟩:=h;exact⟨⟨nv,ns,h.own 4 (.int .i64 o') h.suf rfl,hl⟩,(Ext.refl b w).setCell (p:=⟨b,4,none⟩) (.inl rfl) _⟩
theorem yO(h:Rd b s m1 m2 l o ct w)(t:Sp.Bs)(ht:Sp.tok l≠t) :
  Calls prog 233 #[.pointer (some ⟨b,0,none⟩),.string ⟨t.toArray⟩] w fun e w'=>bB s b w (2,l.length) e w':=by
 go_enter func233,ntmps233;go_wp2_with fail;refine(CU h t ht).mono ?_;rintro e w' hf;obtain⟨N,rfl,hr⟩:=hf;exact⟨rfl,N,rfl,hr⟩
theorem qy(h:Rd b s m1 m2 l 12 ct w)(t:Sp.Bs)(ht:Sp.tok l=t) :
  Calls prog 233 #[.pointer (some ⟨b,0,none⟩),.string ⟨t.toArray⟩] w fun e w'=>bB s b w (3,l.length) e w':=by
 have h4:w.cell? ⟨b,4,none⟩=some (.int .i64 12):=h.c4;go_enter func233,ntmps233;go_wp2_with fail;refine(Af h t ht).mono ?_;rintro e w'⟨rfl,rfl⟩;go_wp2_with fail;refine(eA h 3).mono ?_;rintro e w'⟨rfl,rfl⟩;go_wp2_with fail;exact⟨rfl,gp h 3 3 rfl⟩
theorem iU(h:Rd b s m1 m2 l o ct w)(ho:o<12)(t:Sp.Bs)(ht:Sp.tok l=t)(hd:t.head?.any bq=false:=by decide) :
  Calls prog 233 #[.pointer (some ⟨b,0,none⟩),.string ⟨t.toArray⟩] w fun e w'=>e=.returned (.tuple #[])/\Rd b s m1 m2 (Sp.next l) (o+1) ct w'/\Ext b w w':=by
 have h4:=h.c4;have f4:=h.fz 4;have db:((o:Int) == 12)=false:=by simp;omega
 have hr:=uz h (o+1) ((o:Int)+1) (by omega);obtain⟨h1,x1⟩:=hr;have H1:Hid (Rd b s m1 m2 l (o+1) ct (w.setCell ⟨b,4,none⟩ (.int .i64 ((o:Int)+1)))):=h1;clear h1;go_enter func233,ntmps233;go_wp2_with fail;refine(Af h t ht).mono ?_;rintro e w'⟨rfl,rfl⟩;go_wp2_with fail;refine(gQ H1.out (oM ht hd)).mono ?_;rintro e w'⟨rfl,h2,x2⟩;go_wp2_with fail
 go_end0
 exact⟨rfl,h2,x1.trans x2⟩
theorem Mv(h:Rd b s m1 m2 l o ct w)(p:Int) :
  Rd b s m1 m2 l o (p,ct.2) (w.setCell ⟨b,5,none⟩ (.int .i64 p))/\Ext b w (w.setCell ⟨b,5,none⟩ (.int .i64 p)):=by
 obtain⟨nv,ns,h,hl⟩:=h;exact⟨⟨nv,ns,h.own 5 (.int .i64 p) h.suf rfl,hl⟩,(Ext.refl b w).setCell (p:=⟨b,5,none⟩) (.inl rfl) _⟩
theorem Ol(h:Rd b s m1 m2 l o ct w)(q:Int) :
  Rd b s m1 m2 l o (ct.1,q) (w.setCell ⟨b,6,none⟩ (.int .i64 q))/\Ext b w (w.setCell ⟨b,6,none⟩ (.int .i64 q)):=by
 obtain⟨nv,ns,h,hl⟩:=h;exact⟨⟨nv,ns,h.own 6 (.int .i64 q) h.suf rfl,hl⟩,(Ext.refl b w).setCell (p:=⟨b,6,none⟩) (.inl rfl) _⟩
theorem fN(h:Rd b s m1 m2 l o ct w) :
  Calls prog 204 #[.pointer (some ⟨b,0,none⟩)] w fun e w'=>e=.returned (.int .i64 ct.2)/\Rd b s m1 m2 l o (ct.1,RowKit.wrap64 (ct.2+1)) w'/\Ext b w w':=by
 have h6:=h.c6;have f6:=h.fz 6;obtain⟨h1,x1⟩:=Ol h (RowKit.wrap64 (ct.2+1));have H1:Hid (Rd b s m1 m2 l o (ct.1,RowKit.wrap64 (ct.2+1)) (w.setCell ⟨b,6,none⟩ (.int .i64 (RowKit.wrap64 (ct.2+1))))):=h1;clear h1;go_enter func204,ntmps204;go_wp2_with fail;go_ret;exact⟨rfl,H1.out,x1⟩
theorem dK(h:aR l=some k):∃c:UInt8,Sp.tok l=[c]/\aC l=2/\c.toNat<105/\97<=c.toNat/\k=c.toNat - 97:=by
 unfold aR at h;split at h
 ·rename_i c e
  split at h
  ·rename_i hc
   cases h
   refine⟨c,e,hc.1,hc.2,?_,rfl⟩;cases l with
   | nil=>simp[aC]at hc
   | cons d r =>
    rw[bX]at hc;have hd:Sp.isLet d=true:=by
     by_cases hd:Sp.isLet d=true
     ·exact hd
     ·simp[hd]at hc
      split at hc
      ·omega
      ·split at hc<;>omega
    have:Sp.tok (d :: r)=d :: (r.take (bN Sp.isLet r)):=by unfold Sp.tok;rw[eD,if_pos hd,eo,if_pos hd,List.take_succ_cons]
    rw[this]at e;have e1:d=c:=(List.cons.inj e).1;subst e1;unfold Sp.isLet at hd;simp at hd;omega
  ·cases h
 ·cases h
theorem oq(c:UInt8):∃t:ByteArray,t=⟨[c].toArray⟩/\t.size=1/\∀h:0<t.size,t[0]=c:=⟨⟨[c].toArray⟩,rfl,rfl,fun _=>rfl⟩
theorem nt(h:Rd b s m1 m2 l o ct w)(hk:aR l=some k) :
  Calls prog 203 #[.pointer (some ⟨b,0,none⟩)] w fun e w'=>e=.returned (.int .i64 k)/\Rd b s m1 m2 (Sp.next l) o ct w'/\Ext b w w':=by
 obtain⟨c,ht,rL,DC,rM,rfl⟩:=dK hk;obtain⟨t,et,iv,hx⟩:=oq c;have h0:0<t.size:=by omega
 have h2:w.cell? ⟨b,2,none⟩=some (.int .i64 2):=by rw[h.c2,rL];rfl
 have h3:w.cell? ⟨b,3,none⟩=some (.string t):=by rw[h.c3,ht,et]
 have DP:(t[0].toNat:Int)<105:=by rw[hx];omega
 have tM:(97:Int)<=(t[0].toNat:Int):=by rw[hx];omega
 have aU:Hid (((c.toNat - 97:Nat):Int)=(t[0].toNat:Int) - 97):=by unfold Hid;rw[hx];omega
 have hd:decide ((105:Int)<=(t[0].toNat:Int))=false:=by simp;omega
 have Vp:Hid (aC l≠3):=by unfold Hid;omega
 clear hx et hk DC rM rL ht;go_enter func203,ntmps203;go_wp2_with fail;refine(gQ h Vp.out).mono ?_;rintro e w'⟨rfl,h1,x1⟩;go_wp2_with fail;go_ret;exact⟨cX (by rw[aU.out]),h1,x1⟩
theorem vf(h:Rd b s m1 m2 l o ct w)(hk:aR l=none) :
  Calls prog 203 #[.pointer (some ⟨b,0,none⟩)] w fun e w'=>bB s b w (2,l.length) e w':=by
 have h2:=h.c2;have h3:=h.c3;by_cases rL:aC l=2
 ·by_cases VE:(Sp.tok l).length=1
  ·obtain⟨c,ht⟩:∃c,Sp.tok l=[c]:=by
    match hm:Sp.tok l,VE with
    | [c],_=>exact⟨c,rfl⟩
   obtain⟨t,et,iv,hx⟩:=oq c;have h0:0<t.size:=by omega
   have nO:105<=c.toNat:=by unfold aR at hk;rw[ht]at hk;simp[rL]at hk;omega
   rw[rL]at h2;have Hj:w.cell? ⟨b,2,none⟩=some (.int .i64 2):=h2;rw[ht,<-et]at h3;have hd:decide ((105:Int)<=(t[0].toNat:Int))=true:=by simp;rw[hx];omega
   have FQ:(105:Int)<=(t[0].toNat:Int):=by simpa using hd
   clear h2 hx et ht nO hk rL VE;go_enter func203,ntmps203;go_wp2_with fail;refine(eA h 2).mono ?_;rintro e w'⟨rfl,rfl⟩;go_wp2_with fail;exact⟨rfl,gp h 2 2 rfl⟩
  ·rw[rL]at h2
   have Hj:w.cell? ⟨b,2,none⟩=some (.int .i64 2):=h2;generalize et:(⟨(Sp.tok l).toArray⟩:ByteArray)=t at h3;have iv:((t.size:Int) == 1)=false:=by
    rw[<-et];have:(⟨(Sp.tok l).toArray⟩:ByteArray).size=(Sp.tok l).length:=by simp[ByteArray.size]
    rw[this];simp;omega
   have fM:¬ ((t.size:Int)=1):=by simpa using iv
   clear h2 et hk rL VE;go_enter func203,ntmps203;go_wp2_with fail;refine(eA h 2).mono ?_;rintro e w'⟨rfl,rfl⟩;go_wp2_with fail;exact⟨rfl,gp h 2 2 rfl⟩
 ·have hb:(((aC l:Nat):Int) == 2)=false:=by simp;omega
  have xG:¬ (((aC l:Nat):Int)=2):=by omega
  clear hk rL;generalize aC l=kd at h2 hb xG;go_enter func203,ntmps203;go_wp2_with fail;refine(eA h 2).mono ?_;rintro e w'⟨rfl,rfl⟩;go_wp2_with fail;exact⟨rfl,gp h 2 2 rfl⟩
structure yQ(A:eW) where
 S:Int × Int->Value->A.S->Int × Int->Prop
 iface:∀ct v x bh,S ct v x bh->∃t u,v=.iface t u
 num:∀ct n,n<=32767->S ct (.iface 226 (.int .i16 (n:Nat))) (A.num n) ct
 name:∀ct k,k<8->S ct (.iface 275 (.int .i64 (k:Nat))) (A.name k) ct
 neg:∀ct v x bh,S ct v x bh->S ct (.iface 330 (.agg #[v])) (A.neg x) bh
 bin:∀ct k v x ct1 u y ct2,k<3->S ct v x ct1->S ct1 u y ct2->S ct (.iface 334 (.agg #[.int .i64 (k:Nat),.int .i64 0,v,u])) (A.bin k x y) ct2
 binSite:∀ct k v x ct1 u y ct2,3<=k->k<5->S ct v x ct1->S (ct1.1,RowKit.wrap64 (ct1.2+1)) u y ct2->S ct (.iface 334 (.agg #[.int .i64 (k:Nat),.int .i64 ct1.2,v,u])) (A.bin k x y) ct2
structure Env(b m1 m2:Nat)(w:Wd):Prop where
 laid:Laid w
 ops:jl m1 w
 rels:gK m2 w
 ne1:m1≠b
 ne2:m2≠b
 nb:11<=b
theorem Laid.ext(h:Laid w)(x:Ext b w w')(hb:11<=b):Laid w':=h.below (x.below hb h.size) (Nat.le_refl _)
theorem Env.ext(h:Env b m1 m2 w)(x:Ext b w w'):Env b m1 m2 w' :=
 ⟨h.laid.ext x h.nb,h.ops.ext x h.ne1,h.rels.ext x h.ne2,h.ne1,h.ne2,h.nb⟩
def nH(Rp:yQ A)(b:Nat)(s:ByteArray)(m1 m2 o:Nat)(ct:Int × Int)(w:Wd):Sp.R A.S->Ending->Wd->Prop
 | .ok (x,l'),e,w'=>∃v,e=.returned v/\∃bh,Rp.S ct v x bh/\Rd b s m1 m2 l' o bh w'/\Ext b w w'
 | .error er,e,w'=>bB s b w er e w'
def gR(b:Nat)(s:ByteArray)(w:Wd):Nat:=match w.cell? ⟨b,1,none⟩ with
 | some (.int _ q)=>s.size - q.toNat
 | _=>0
theorem Rd.rest(h:Rd b s m1 m2 l o ct w):gR b s w=l.length:=by unfold gR;rw[h.c1];have:=h.len;simp;omega
theorem Rd.iE(h:Rd b s m1 m2 l o ct w):(Sp.tok l).length<=400:=by have:=dR l;have:=fv l;have:=h.len;have:=h.sz;omega
theorem heap_drewN(w:Wd)(k:Nat):(w.drewN k).heap=w.heap:=by simp[World.drewN]
theorem jl.drewN(h:jl m w)(k:Nat):jl m (w.drewN k):=by obtain⟨es,clock,hh,r⟩:=h;exact⟨es,clock,by rw[heap_drewN];exact hh,r⟩
theorem gK.drewN(h:gK m w)(k:Nat):gK m (w.drewN k):=by obtain⟨es,clock,hh,r⟩:=h;exact⟨es,clock,by rw[heap_drewN];exact hh,r⟩
theorem Rd.drewN(h:Rd b s m1 m2 l o ct w)(k:Nat):Rd b s m1 m2 l o ct (w.drewN k):=h.bF rfl (fun _ _ _ _=>rfl)
theorem Ext.drewN(h:Ext b w w')(k:Nat):Ext b w (w'.drewN k):=⟨h.os,h.tape,h.output,h.size,h.block⟩
theorem pJ(h:jl m w)(t:Sp.Bs)(ht:t.length<=400)(ho:eb t=none)(k:Nat) :
  (Instr.lookup 141 (.map (some m)) (.string ⟨t.toArray⟩) true).run prog (w.drewN k)=.ok (.tuple #[.int .i64 0,.bool false]) (w.drewN k):=by
 rw[Bx (h.drewN k) t ht,ho];rfl
theorem pP(h:jl m w)(t:Sp.Bs)(ht:t.length<=400)(ho:eb t=some j)(k:Nat) :
  (Instr.lookup 141 (.map (some m)) (.string ⟨t.toArray⟩) true).run prog (w.drewN k)=.ok (.tuple #[.int .i64 (j:Nat),.bool true]) (w.drewN k):=by
 rw[Bx (h.drewN k) t ht,ho];rfl
theorem re(h:eb t=some k):k<5:=by
 unfold eb at h
 repeat' split at h
 all_goals first | (cases h;decide) | cases h
theorem fC(h:eb (Sp.tok l)=some k):(Sp.next l).length<l.length:=by apply fL;rw[<-dR];apply List.length_pos_iff.2;intro e;rw[e]at h;simp[eb]at h
theorem xe(h:eb (Sp.tok l)=some k):aC l≠3:=by
 intro h3;obtain⟨db,hd⟩:=dp h3
 revert h db hd
 generalize Sp.tok l=t;intro h db hd;cases t with
 | nil=>exact db rfl
 | cons c r =>
  have hc:=hd c (by simp);unfold bq at hc;simp at hc;unfold eb at h
  repeat' split at h
  all_goals first
   | (rename_i e;injection e with e1 _;subst e1;revert hc;decide)
   | cases h
theorem Ext.il(h:Ext b (w.drewN k) w'):Ext b w w':=⟨h.os,h.tape,h.output,h.size,h.block⟩
theorem Rd.ext(h:Rd b s m1 m2 l o ct w)(ob:Obj):Rd b s m1 m2 l o ct (w.alloc ob):=h.bF (Below.heap_alloc _ _ _ h.lt) (fun _ _ hk _=>Below.heap_alloc _ _ _ hk)
theorem lI{c:Array Value}{t:TypeId}{f:Nat × Nat}(x:Ext b (w.alloc (.cells c t f)) w')(hb:b<w.heap.size)(ht:t≠226:=by decide):w'.heap[w.heap.size]?=some (.cells c t f) :=
 x.bF (heap_alloc_new _ _) (by omega) (fj ht)
theorem Rd.eh(h:Rd b s m1 m2 l o ct w){p:Addr}(hp:p.block≠b)(hn:¬ nV w.heap[p.block]?)(u:Value):Rd b s m1 m2 l o ct (w.setCell p u) :=
 h.bF (Below.heap_setCell _ _ _ _ (fun e=>hp e.symm)) (fun k _ _ hk=>Below.heap_setCell _ _ _ _ (fun e=>hn (by rw[<-e];exact hk)))
def fo(k:Nat)(q:Int)(x y:Value):Array Value:=#[.int .i64 (k:Nat),.int .i64 q,x,y]
theorem C2{q:Int}(h:Bk w N (fo k q x y) 334)(q':Int):(w.setCell ⟨N,1,none⟩ (.int .i64 q')).heap[N]?=some (.cells (fo k q' x y) 334):=by rw[ai h 1 (.int .i64 q')];rfl
theorem rf{q:Int}(h:Bk w N (fo k q x y) 334)(v:Value):(w.setCell ⟨N,3,none⟩ v).heap[N]?=some (.cells (fo k q x v) 334):=by rw[ai h 3 v];rfl
theorem Ce(Rp:yQ A)(b:Nat)(s:ByteArray)(m1 m2 o n:Nat)(u:Sp.Bs->Sp.R A.S)
  (cW:Hid (∀l x l1,u l=.ok (x,l1)->l1.length<=l.length))
  (hu:Hid (∀l ct w,l.length<n->Rd b s m1 m2 l o ct w->Env b m1 m2 w->Calls prog 247 #[.pointer (some ⟨b,0,none⟩)] w (nH Rp b s m1 m2 o ct w (u l))))
  (l:Sp.Bs) (ct:Int × Int) (w:Wd) (hl:l.length<n) (h:Rd b s m1 m2 l o ct w) (hE:Env b m1 m2 w) :
  Calls prog 234 #[.pointer (some ⟨b,0,none⟩),.int .i64 1,.func (Fn.func 247) #[.pointer (some ⟨b,0,none⟩)] #[]] w (nH Rp b s m1 m2 o ct w (bL A 1 u l)):=by
 go_enter func234,ntmps234;go_wp2_with fail;refine(hu.out l ct _ hl h hE).mono ?_;intro e w1 hp;cases hr:u l with
 | error er =>rw[hr]at hp;obtain⟨N,rfl,hf⟩:=hp;refine⟨rfl,?_⟩;unfold bL;rw[hr];exact⟨N,rfl,hf⟩
 | ok xl =>
  obtain⟨x,l1⟩:=xl;rw[hr]at hp;obtain⟨v,rfl,ct1,hv,h1,x1⟩:=hp;obtain⟨tv,uv,rfl⟩:=Rp.iface _ _ _ _ hv;go_wp2_with fail
  go_loopw [7] (fun t wr=>∃(tt:TypeId) (uu:Value) (x':A.S) (l':Sp.Bs) (m:Nat) (bh:Int × Int),t=.iface tt uu/\Hid (Rp.S ct (.iface tt uu) x' bh)/\Hid (l'.length<m/\l'.length<n/\bL A 1 u l=bC A 1 u m x' l')/\Hid (Rd b s m1 m2 l' o bh wr/\Env b m1 m2 wr/\Ext b w wr)) (fun _ wr=>gR b s wr)
  case atStart => 
   refine⟨tv,uv,x,l1,l1.length+1,ct1,rfl,hv,⟨Nat.lt_succ_self _,?_,?_⟩,h1,hE.ext x1,x1⟩
   ·have:=cW.out l x l1 hr
    omega
   ·unfold bL
    rw[hr]
  case round =>
   obtain⟨tt,uu,x',l',m,bh,rfl,Nv,kg,dw⟩:=hrel;have c3:=dw.1.c3;have c7:=dw.1.c7;cases ho:eb (Sp.tok l') with
   | none =>
    have Hf:=pJ dw.2.1.ops (Sp.tok l') dw.1.iE ho;have HO:=hid ho;clear ho;have aU:Hid (bL A 1 u l=.ok (x',l')):=by
     unfold Hid;rw[kg.2.2];cases m with
     | zero=>rfl
     | succ m=>unfold bC;rw[HO.out]
    clear HO;go_wp2_with fail;go_quiet (fail);go_wp2_with fail;go_ret;rw[aU.out];exact⟨_,rfl,bh,Nv,dw.1.drewN _,dw.2.2.drewN _⟩
   | some k =>
    have Hf:=pP dw.2.1.ops (Sp.tok l') dw.1.iE ho;have ye:k<5:=re ho;have HO:=hid ho;clear ho;by_cases Ke:cL k=1
    ·have F5:=hid Ke
     clear Ke;go_wp2_with fail;go_quiet (fail);go_wp2_with fail;refine(iP k ye _).mono ?_;rintro e w2⟨rfl,rfl⟩;rw[F5.out];go_wp2_with fail;refine(gQ (dw.1.drewN _) (xe HO.out)).mono ?_;rintro e w2⟨rfl,h2,x2⟩;have H2:Hid (Rd b s m1 m2 (Sp.next l') o bh (w2.alloc (.cells #[.int .i64 (k:Nat),.int .i64 0,.iface tt uu,.nilIface] 334))):=h2.ext _;have Zp:=h2.lt;have dj:=fC HO.out;have X3:Hid (Ext b w (w2.alloc (.cells #[.int .i64 (k:Nat),.int .i64 0,.iface tt uu,.nilIface] 334))/\Ext b wr (w2.alloc (.cells #[.int .i64 (k:Nat),.int .i64 0,.iface tt uu,.nilIface] 334))):=⟨(dw.2.2.trans x2.il).alloc _,x2.il.alloc _⟩;have Up:Hid ((w2.alloc (.cells #[.int .i64 (k:Nat),.int .i64 0,.iface tt uu,.nilIface] 334)).heap[w2.heap.size]?=some (.cells (fo k 0 (.iface tt uu) .nilIface) 334)):=heap_alloc_new _ _;have eg:w.heap.size<=w2.heap.size:=(dw.2.2.trans x2.il).size;go_wp2_with fail;refine(pK k ye _).mono ?_;rintro e w2'⟨rfl,rfl⟩;by_cases gI:3<=k
     ·rw[show decide (3<=k)=true from decide_eq_true gI]
      go_wp2_with fail;generalize w2.alloc (.cells #[.int .i64 (k:Nat),.int .i64 0,.iface tt uu,.nilIface] 334)=wn at *;refine(fN H2.out).mono ?_;rintro e w3⟨rfl,h3,x3⟩;have eI:w3.heap[w2.heap.size]?=some (.cells (fo k 0 (.iface tt uu) .nilIface) 334):=by exact x3.bF Up.out (by omega) (fj (by decide))
      have k1:=cell_of eI 1 (v:=.int .i64 0) rfl;have f1:=aw eI 1;have Nu:=C2 eI bh.2;have H3:Hid (Rd b s m1 m2 (Sp.next l') o (bh.1,RowKit.wrap64 (bh.2+1)) (w3.setCell ⟨w2.heap.size,1,none⟩ (.int .i64 bh.2))):=h3.eh (p:=⟨w2.heap.size,1,none⟩) (by show w2.heap.size≠b;omega) (kH eI (by decide)) _;have X4:Hid (Ext b w (w3.setCell ⟨w2.heap.size,1,none⟩ (.int .i64 bh.2))/\Env b m1 m2 (w3.setCell ⟨w2.heap.size,1,none⟩ (.int .i64 bh.2))):=by have e:=(X3.1.trans x3).setCell (p:=⟨w2.heap.size,1,none⟩) (.inr eg) (.int .i64 bh.2);exact⟨e,hE.ext e⟩
      have TA:=hid Nu;clear Nu eI;go_wp2_with fail;clear k1 f1;generalize w3.setCell ⟨w2.heap.size,1,none⟩ (.int .i64 bh.2)=w5 at *;have AV:=hu.out (Sp.next l') _ w5 (by have:=kg.2.1;omega) H3.out X4.2;refine AV.mono ?_;intro e w4 zq;cases qG:u (Sp.next l') with
      | error er =>
       rw[qG]at zq;have aU:bL A 1 u l=.error er:=by
        rw[kg.2.2];cases m with
        | zero=>exact absurd kg.1 (by omega)
        | succ m=>unfold bC;rw[HO.out];simp only;rw[if_pos F5.out,qG]
       obtain⟨N,rfl,hf⟩:=zq;refine⟨rfl,?_⟩;rw[aU];exact bB.ahead X4.1 ⟨N,rfl,hf⟩
      | ok yl =>
       obtain⟨y,l2⟩:=yl;rw[qG]at zq;obtain⟨vy,rfl,sM,zt,h4,x4⟩:=zq;obtain⟨ty,uy,rfl⟩:=Rp.iface _ _ _ _ zt;have Ul:=cW.out _ _ _ qG;have HB:Hid (Rp.S ct (.iface 334 (.agg #[.int .i64 (k:Nat),.int .i64 bh.2,.iface tt uu,.iface ty uy])) (A.bin k x' y) sM):=Rp.binSite ct k _ _ _ _ _ _ gI ye Nv.out zt;have pF:Hid (l2.length<m - 1/\l2.length<n/\bL A 1 u l=bC A 1 u (m - 1) (A.bin k x' y) l2):=by
        have:=kg.1;have:=kg.2.1;refine⟨by omega,by omega,?_⟩;rw[kg.2.2];cases m with
        | zero=>exact absurd kg.1 (by omega)
        | succ m =>
         have e:bC A 1 u (m+1) x' l'=bC A 1 u m (A.bin k x' y) l2:=by
          conv=>lhs;unfold bC
          rw[HO.out];simp only;rw[if_pos F5.out,qG]
         exact e
       have eI:w4.heap[w2.heap.size]?=some (.cells (fo k bh.2 (.iface tt uu) .nilIface) 334):=by exact x4.bF TA.out (by omega) (fj (by decide))
       have k3:=cell_of eI 3 (v:=.nilIface) rfl;have f3:=aw eI 3;have kf:=rf eI (.iface ty uy);have q0:=cell_of kf 0 (v:=.int .i64 (k:Nat)) rfl;have q1:=cell_of kf 1 (v:=.int .i64 bh.2) rfl;have q2:=cell_of kf 2 (v:=.iface tt uu) rfl;have q3:=cell_of kf 3 (v:=.iface ty uy) rfl;have h6:Rd b s m1 m2 l2 o sM (w4.setCell ⟨w2.heap.size,3,none⟩ (.iface ty uy)):=h4.eh (p:=⟨w2.heap.size,3,none⟩) (by show w2.heap.size≠b;omega) (kH eI (by decide)) _;have x6:Ext b w (w4.setCell ⟨w2.heap.size,3,none⟩ (.iface ty uy)):=(X4.1.trans x4).setCell (p:=⟨w2.heap.size,3,none⟩) (.inr eg) _;have cK:gR b s (w4.setCell ⟨w2.heap.size,3,none⟩ (.iface ty uy))<gR b s wr:=by rw[h6.rest,dw.1.rest];omega
       have xv:=hid cK;have HS:Hid (Rd b s m1 m2 l2 o sM (w4.setCell ⟨w2.heap.size,3,none⟩ (.iface ty uy))/\Env b m1 m2 (w4.setCell ⟨w2.heap.size,3,none⟩ (.iface ty uy))/\Ext b w (w4.setCell ⟨w2.heap.size,3,none⟩ (.iface ty uy))):=⟨h6,hE.ext x6,x6⟩;clear qG zt AV eI kf h6 x6 cK x4 h4;go_wp2_with fail;exact⟨⟨_,_,_,_,_,_,rfl,HB,pF,HS⟩,xv.out⟩
     ·rw[show decide (3<=k)=false from decide_eq_false gI]
      go_wp2_with fail;generalize w2.alloc (.cells #[.int .i64 (k:Nat),.int .i64 0,.iface tt uu,.nilIface] 334)=w5 at *;have TA:=hid Up.out;have X4:Hid (Ext b w w5/\Env b m1 m2 w5):=⟨X3.1,hE.ext X3.1⟩;have AV:=hu.out (Sp.next l') _ w5 (by have:=kg.2.1;omega) H2.out X4.2;refine AV.mono ?_;intro e w4 zq;cases qG:u (Sp.next l') with
      | error er =>
       rw[qG]at zq;have aU:bL A 1 u l=.error er:=by
        rw[kg.2.2];cases m with
        | zero=>exact absurd kg.1 (by omega)
        | succ m=>unfold bC;rw[HO.out];simp only;rw[if_pos F5.out,qG]
       obtain⟨N,rfl,hf⟩:=zq;refine⟨rfl,?_⟩;rw[aU];exact bB.ahead X4.1 ⟨N,rfl,hf⟩
      | ok yl =>
       obtain⟨y,l2⟩:=yl;rw[qG]at zq;obtain⟨vy,rfl,sM,zt,h4,x4⟩:=zq;obtain⟨ty,uy,rfl⟩:=Rp.iface _ _ _ _ zt;have Ul:=cW.out _ _ _ qG;have HB:Hid (Rp.S ct (.iface 334 (.agg #[.int .i64 (k:Nat),.int .i64 0,.iface tt uu,.iface ty uy])) (A.bin k x' y) sM):=Rp.bin ct k _ _ _ _ _ _ (by omega) Nv.out zt;have pF:Hid (l2.length<m - 1/\l2.length<n/\bL A 1 u l=bC A 1 u (m - 1) (A.bin k x' y) l2):=by
        have:=kg.1;have:=kg.2.1;refine⟨by omega,by omega,?_⟩;rw[kg.2.2];cases m with
        | zero=>exact absurd kg.1 (by omega)
        | succ m =>
         have e:bC A 1 u (m+1) x' l'=bC A 1 u m (A.bin k x' y) l2:=by
          conv=>lhs;unfold bC
          rw[HO.out];simp only;rw[if_pos F5.out,qG]
         exact e
       have eI:w4.heap[w2.heap.size]?=some (.cells (fo k 0 (.iface tt uu) .nilIface) 334):=by exact x4.bF TA.out (by omega) (fj (by decide))
       have k3:=cell_of eI 3 (v:=.nilIface) rfl;have f3:=aw eI 3;have kf:=rf eI (.iface ty uy);have q0:=cell_of kf 0 (v:=.int .i64 (k:Nat)) rfl;have q1:=cell_of kf 1 (v:=.int .i64 0) rfl;have q2:=cell_of kf 2 (v:=.iface tt uu) rfl;have q3:=cell_of kf 3 (v:=.iface ty uy) rfl;have h6:Rd b s m1 m2 l2 o sM (w4.setCell ⟨w2.heap.size,3,none⟩ (.iface ty uy)):=h4.eh (p:=⟨w2.heap.size,3,none⟩) (by show w2.heap.size≠b;omega) (kH eI (by decide)) _;have x6:Ext b w (w4.setCell ⟨w2.heap.size,3,none⟩ (.iface ty uy)):=(X4.1.trans x4).setCell (p:=⟨w2.heap.size,3,none⟩) (.inr eg) _;have cK:gR b s (w4.setCell ⟨w2.heap.size,3,none⟩ (.iface ty uy))<gR b s wr:=by rw[h6.rest,dw.1.rest];omega
       have xv:=hid cK;have HS:Hid (Rd b s m1 m2 l2 o sM (w4.setCell ⟨w2.heap.size,3,none⟩ (.iface ty uy))/\Env b m1 m2 (w4.setCell ⟨w2.heap.size,3,none⟩ (.iface ty uy))/\Ext b w (w4.setCell ⟨w2.heap.size,3,none⟩ (.iface ty uy))):=⟨h6,hE.ext x6,x6⟩;clear qG zt AV eI kf h6 x6 cK x4 h4;go_wp2_with fail;exact⟨⟨_,_,_,_,_,_,rfl,HB,pF,HS⟩,xv.out⟩
    ·have F5:Hid (cL k=0):=by
      unfold Hid cL at *;split<;>simp_all
     have aU:Hid (bL A 1 u l=.ok (x',l')):=by
      unfold Hid;rw[kg.2.2];cases m with
      | zero=>rfl
      | succ m=>unfold bC;rw[HO.out];simp only;rw[if_neg Ke]
     clear Ke;go_wp2_with fail;go_quiet (fail);go_wp2_with fail;refine(iP k ye _).mono ?_;rintro e w2⟨rfl,rfl⟩;rw[F5.out];go_wp2_with fail;go_ret;rw[aU.out];exact⟨_,rfl,bh,Nv,dw.1.drewN _,dw.2.2.drewN _⟩
theorem xN(Rp:yQ A)(b:Nat)(s:ByteArray)(m1 m2 o n:Nat)(u:Sp.Bs->Sp.R A.S)
  (cW:Hid (∀l x l1,u l=.ok (x,l1)->l1.length<=l.length))
  (hu:Hid (∀l ct w,l.length<n->Rd b s m1 m2 l o ct w->Env b m1 m2 w->Calls prog 235 #[.pointer (some ⟨b,0,none⟩)] w (nH Rp b s m1 m2 o ct w (u l))))
  (l:Sp.Bs) (ct:Int × Int) (w:Wd) (hl:l.length<n) (h:Rd b s m1 m2 l o ct w) (hE:Env b m1 m2 w) :
  Calls prog 234 #[.pointer (some ⟨b,0,none⟩),.int .i64 0,.func (Fn.func 235) #[.pointer (some ⟨b,0,none⟩)] #[]] w (nH Rp b s m1 m2 o ct w (bL A 0 u l)):=by
 go_enter func234,ntmps234;go_wp2_with fail;refine(hu.out l ct _ hl h hE).mono ?_;intro e w1 hp;cases hr:u l with
 | error er =>rw[hr]at hp;obtain⟨N,rfl,hf⟩:=hp;refine⟨rfl,?_⟩;unfold bL;rw[hr];exact⟨N,rfl,hf⟩
 | ok xl =>
  obtain⟨x,l1⟩:=xl;rw[hr]at hp;obtain⟨v,rfl,ct1,hv,h1,x1⟩:=hp;obtain⟨tv,uv,rfl⟩:=Rp.iface _ _ _ _ hv;go_wp2_with fail
  go_loopw [7] (fun t wr=>∃(tt:TypeId) (uu:Value) (x':A.S) (l':Sp.Bs) (m:Nat) (bh:Int × Int),t=.iface tt uu/\Hid (Rp.S ct (.iface tt uu) x' bh)/\Hid (l'.length<m/\l'.length<n/\bL A 0 u l=bC A 0 u m x' l')/\Hid (Rd b s m1 m2 l' o bh wr/\Env b m1 m2 wr/\Ext b w wr)) (fun _ wr=>gR b s wr)
  case atStart => 
   refine⟨tv,uv,x,l1,l1.length+1,ct1,rfl,hv,⟨Nat.lt_succ_self _,?_,?_⟩,h1,hE.ext x1,x1⟩
   ·have:=cW.out l x l1 hr
    omega
   ·unfold bL
    rw[hr]
  case round =>
   obtain⟨tt,uu,x',l',m,bh,rfl,Nv,kg,dw⟩:=hrel;have c3:=dw.1.c3;have c7:=dw.1.c7;cases ho:eb (Sp.tok l') with
   | none =>
    have Hf:=pJ dw.2.1.ops (Sp.tok l') dw.1.iE ho;have HO:=hid ho;clear ho;have aU:Hid (bL A 0 u l=.ok (x',l')):=by
     unfold Hid;rw[kg.2.2];cases m with
     | zero=>rfl
     | succ m=>unfold bC;rw[HO.out]
    clear HO;go_wp2_with fail;go_quiet (fail);go_wp2_with fail;go_ret;rw[aU.out];exact⟨_,rfl,bh,Nv,dw.1.drewN _,dw.2.2.drewN _⟩
   | some k =>
    have Hf:=pP dw.2.1.ops (Sp.tok l') dw.1.iE ho;have ye:k<5:=re ho;have HO:=hid ho;clear ho;by_cases Ke:cL k=0
    ·have F5:=hid Ke
     clear Ke;go_wp2_with fail;go_quiet (fail);go_wp2_with fail;refine(iP k ye _).mono ?_;rintro e w2⟨rfl,rfl⟩;rw[F5.out];go_wp2_with fail;refine(gQ (dw.1.drewN _) (xe HO.out)).mono ?_;rintro e w2⟨rfl,h2,x2⟩;have H2:Hid (Rd b s m1 m2 (Sp.next l') o bh (w2.alloc (.cells #[.int .i64 (k:Nat),.int .i64 0,.iface tt uu,.nilIface] 334))):=h2.ext _;have Zp:=h2.lt;have dj:=fC HO.out;have X3:Hid (Ext b w (w2.alloc (.cells #[.int .i64 (k:Nat),.int .i64 0,.iface tt uu,.nilIface] 334))/\Ext b wr (w2.alloc (.cells #[.int .i64 (k:Nat),.int .i64 0,.iface tt uu,.nilIface] 334))):=⟨(dw.2.2.trans x2.il).alloc _,x2.il.alloc _⟩;have Up:Hid ((w2.alloc (.cells #[.int .i64 (k:Nat),.int .i64 0,.iface tt uu,.nilIface] 334)).heap[w2.heap.size]?=some (.cells (fo k 0 (.iface tt uu) .nilIface) 334)):=heap_alloc_new _ _;have eg:w.heap.size<=w2.heap.size:=(dw.2.2.trans x2.il).size;go_wp2_with fail;refine(pK k ye _).mono ?_;rintro e w2'⟨rfl,rfl⟩;by_cases gI:3<=k
     ·rw[show decide (3<=k)=true from decide_eq_true gI]
      go_wp2_with fail;generalize w2.alloc (.cells #[.int .i64 (k:Nat),.int .i64 0,.iface tt uu,.nilIface] 334)=wn at *;refine(fN H2.out).mono ?_;rintro e w3⟨rfl,h3,x3⟩;have eI:w3.heap[w2.heap.size]?=some (.cells (fo k 0 (.iface tt uu) .nilIface) 334):=by exact x3.bF Up.out (by omega) (fj (by decide))
      have k1:=cell_of eI 1 (v:=.int .i64 0) rfl;have f1:=aw eI 1;have Nu:=C2 eI bh.2;have H3:Hid (Rd b s m1 m2 (Sp.next l') o (bh.1,RowKit.wrap64 (bh.2+1)) (w3.setCell ⟨w2.heap.size,1,none⟩ (.int .i64 bh.2))):=h3.eh (p:=⟨w2.heap.size,1,none⟩) (by show w2.heap.size≠b;omega) (kH eI (by decide)) _;have X4:Hid (Ext b w (w3.setCell ⟨w2.heap.size,1,none⟩ (.int .i64 bh.2))/\Env b m1 m2 (w3.setCell ⟨w2.heap.size,1,none⟩ (.int .i64 bh.2))):=by have e:=(X3.1.trans x3).setCell (p:=⟨w2.heap.size,1,none⟩) (.inr eg) (.int .i64 bh.2);exact⟨e,hE.ext e⟩
      have TA:=hid Nu;clear Nu eI;go_wp2_with fail;clear k1 f1;generalize w3.setCell ⟨w2.heap.size,1,none⟩ (.int .i64 bh.2)=w5 at *;have AV:=hu.out (Sp.next l') _ w5 (by have:=kg.2.1;omega) H3.out X4.2;refine AV.mono ?_;intro e w4 zq;cases qG:u (Sp.next l') with
      | error er =>
       rw[qG]at zq;have aU:bL A 0 u l=.error er:=by
        rw[kg.2.2];cases m with
        | zero=>exact absurd kg.1 (by omega)
        | succ m=>unfold bC;rw[HO.out];simp only;rw[if_pos F5.out,qG]
       obtain⟨N,rfl,hf⟩:=zq;refine⟨rfl,?_⟩;rw[aU];exact bB.ahead X4.1 ⟨N,rfl,hf⟩
      | ok yl =>
       obtain⟨y,l2⟩:=yl;rw[qG]at zq;obtain⟨vy,rfl,sM,zt,h4,x4⟩:=zq;obtain⟨ty,uy,rfl⟩:=Rp.iface _ _ _ _ zt;have Ul:=cW.out _ _ _ qG;have HB:Hid (Rp.S ct (.iface 334 (.agg #[.int .i64 (k:Nat),.int .i64 bh.2,.iface tt uu,.iface ty uy])) (A.bin k x' y) sM):=Rp.binSite ct k _ _ _ _ _ _ gI ye Nv.out zt;have pF:Hid (l2.length<m - 1/\l2.length<n/\bL A 0 u l=bC A 0 u (m - 1) (A.bin k x' y) l2):=by
        have:=kg.1;have:=kg.2.1;refine⟨by omega,by omega,?_⟩;rw[kg.2.2];cases m with
        | zero=>exact absurd kg.1 (by omega)
        | succ m =>
         have e:bC A 0 u (m+1) x' l'=bC A 0 u m (A.bin k x' y) l2:=by
          conv=>lhs;unfold bC
          rw[HO.out];simp only;rw[if_pos F5.out,qG]
         exact e
       have eI:w4.heap[w2.heap.size]?=some (.cells (fo k bh.2 (.iface tt uu) .nilIface) 334):=by exact x4.bF TA.out (by omega) (fj (by decide))
       have k3:=cell_of eI 3 (v:=.nilIface) rfl;have f3:=aw eI 3;have kf:=rf eI (.iface ty uy);have q0:=cell_of kf 0 (v:=.int .i64 (k:Nat)) rfl;have q1:=cell_of kf 1 (v:=.int .i64 bh.2) rfl;have q2:=cell_of kf 2 (v:=.iface tt uu) rfl;have q3:=cell_of kf 3 (v:=.iface ty uy) rfl;have h6:Rd b s m1 m2 l2 o sM (w4.setCell ⟨w2.heap.size,3,none⟩ (.iface ty uy)):=h4.eh (p:=⟨w2.heap.size,3,none⟩) (by show w2.heap.size≠b;omega) (kH eI (by decide)) _;have x6:Ext b w (w4.setCell ⟨w2.heap.size,3,none⟩ (.iface ty uy)):=(X4.1.trans x4).setCell (p:=⟨w2.heap.size,3,none⟩) (.inr eg) _;have cK:gR b s (w4.setCell ⟨w2.heap.size,3,none⟩ (.iface ty uy))<gR b s wr:=by rw[h6.rest,dw.1.rest];omega
       have xv:=hid cK;have HS:Hid (Rd b s m1 m2 l2 o sM (w4.setCell ⟨w2.heap.size,3,none⟩ (.iface ty uy))/\Env b m1 m2 (w4.setCell ⟨w2.heap.size,3,none⟩ (.iface ty uy))/\Ext b w (w4.setCell ⟨w2.heap.size,3,none⟩ (.iface ty uy))):=⟨h6,hE.ext x6,x6⟩;clear qG zt AV eI kf h6 x6 cK x4 h4;go_wp2_with fail;exact⟨⟨_,_,_,_,_,_,rfl,HB,pF,HS⟩,xv.out⟩
     ·rw[show decide (3<=k)=false from decide_eq_false gI]
      go_wp2_with fail;generalize w2.alloc (.cells #[.int .i64 (k:Nat),.int .i64 0,.iface tt uu,.nilIface] 334)=w5 at *;have TA:=hid Up.out;have X4:Hid (Ext b w w5/\Env b m1 m2 w5):=⟨X3.1,hE.ext X3.1⟩;have AV:=hu.out (Sp.next l') _ w5 (by have:=kg.2.1;omega) H2.out X4.2;refine AV.mono ?_;intro e w4 zq;cases qG:u (Sp.next l') with
      | error er =>
       rw[qG]at zq;have aU:bL A 0 u l=.error er:=by
        rw[kg.2.2];cases m with
        | zero=>exact absurd kg.1 (by omega)
        | succ m=>unfold bC;rw[HO.out];simp only;rw[if_pos F5.out,qG]
       obtain⟨N,rfl,hf⟩:=zq;refine⟨rfl,?_⟩;rw[aU];exact bB.ahead X4.1 ⟨N,rfl,hf⟩
      | ok yl =>
       obtain⟨y,l2⟩:=yl;rw[qG]at zq;obtain⟨vy,rfl,sM,zt,h4,x4⟩:=zq;obtain⟨ty,uy,rfl⟩:=Rp.iface _ _ _ _ zt;have Ul:=cW.out _ _ _ qG;have HB:Hid (Rp.S ct (.iface 334 (.agg #[.int .i64 (k:Nat),.int .i64 0,.iface tt uu,.iface ty uy])) (A.bin k x' y) sM):=Rp.bin ct k _ _ _ _ _ _ (by omega) Nv.out zt;have pF:Hid (l2.length<m - 1/\l2.length<n/\bL A 0 u l=bC A 0 u (m - 1) (A.bin k x' y) l2):=by
        have:=kg.1;have:=kg.2.1;refine⟨by omega,by omega,?_⟩;rw[kg.2.2];cases m with
        | zero=>exact absurd kg.1 (by omega)
        | succ m =>
         have e:bC A 0 u (m+1) x' l'=bC A 0 u m (A.bin k x' y) l2:=by
          conv=>lhs;unfold bC
          rw[HO.out];simp only;rw[if_pos F5.out,qG]
         exact e
       have eI:w4.heap[w2.heap.size]?=some (.cells (fo k 0 (.iface tt uu) .nilIface) 334):=by exact x4.bF TA.out (by omega) (fj (by decide))
       have k3:=cell_of eI 3 (v:=.nilIface) rfl;have f3:=aw eI 3;have kf:=rf eI (.iface ty uy);have q0:=cell_of kf 0 (v:=.int .i64 (k:Nat)) rfl;have q1:=cell_of kf 1 (v:=.int .i64 0) rfl;have q2:=cell_of kf 2 (v:=.iface tt uu) rfl;have q3:=cell_of kf 3 (v:=.iface ty uy) rfl;have h6:Rd b s m1 m2 l2 o sM (w4.setCell ⟨w2.heap.size,3,none⟩ (.iface ty uy)):=h4.eh (p:=⟨w2.heap.size,3,none⟩) (by show w2.heap.size≠b;omega) (kH eI (by decide)) _;have x6:Ext b w (w4.setCell ⟨w2.heap.size,3,none⟩ (.iface ty uy)):=(X4.1.trans x4).setCell (p:=⟨w2.heap.size,3,none⟩) (.inr eg) _;have cK:gR b s (w4.setCell ⟨w2.heap.size,3,none⟩ (.iface ty uy))<gR b s wr:=by rw[h6.rest,dw.1.rest];omega
       have xv:=hid cK;have HS:Hid (Rd b s m1 m2 l2 o sM (w4.setCell ⟨w2.heap.size,3,none⟩ (.iface ty uy))/\Env b m1 m2 (w4.setCell ⟨w2.heap.size,3,none⟩ (.iface ty uy))/\Ext b w (w4.setCell ⟨w2.heap.size,3,none⟩ (.iface ty uy))):=⟨h6,hE.ext x6,x6⟩;clear qG zt AV eI kf h6 x6 cK x4 h4;go_wp2_with fail;exact⟨⟨_,_,_,_,_,_,rfl,HB,pF,HS⟩,xv.out⟩
    ·have F5:Hid (cL k=1):=by
      unfold Hid cL at *;split<;>simp_all
     have aU:Hid (bL A 0 u l=.ok (x',l')):=by
      unfold Hid;rw[kg.2.2];cases m with
      | zero=>rfl
      | succ m=>unfold bC;rw[HO.out];simp only;rw[if_neg Ke]
     clear Ke;go_wp2_with fail;go_quiet (fail);go_wp2_with fail;refine(iP k ye _).mono ?_;rintro e w2⟨rfl,rfl⟩;rw[F5.out];go_wp2_with fail;go_ret;rw[aU.out];exact⟨_,rfl,bh,Nv,dw.1.drewN _,dw.2.2.drewN _⟩
end
end Go.Proofs.YtiopfihjmkfdmaaGreatDoor
