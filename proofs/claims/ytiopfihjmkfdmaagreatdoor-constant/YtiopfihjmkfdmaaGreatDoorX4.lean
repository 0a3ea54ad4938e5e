import Derived.Test.YtiopfihjmkfdmaaGreatDoorX1
import Derived.Deep.DeepFit
import Derived.Deep.RegionWith
import Derived.Lib.IndexAny
import Derived.Maps.OwnSet
import Derived.Test.YtiopfihjmkfdmaaGreatDoorXh
namespace Go.Proofs.YtiopfihjmkfdmaaGreatDoor
namespace Sp
theorem take_ok_iff {t l l1:Bs} (h:take t l=.ok l1):tok l=t∧l1=next l:=by
 unfold take at h
 split at h
 ·cases h; exact ⟨by assumption,rfl⟩
 ·cases h
theorem enter_ok_iff {t l l1:Bs} {o:Nat} (h:enter t o l=.ok l1):tok l=t∧o ≠ 12∧l1=next l:=by
 unfold enter at h
 split at h
 ·split at h
  ·cases h
  ·cases h; exact ⟨by assumption,by assumption,rfl⟩
 ·cases h
theorem pName_ok_iff {l l1:Bs} {k:Nat} (h:pName l=.ok (k,l1)):nameVal l=some k∧l1=next l:=by
 unfold pName at h
 split at h
 ·rename_i hk; cases h; exact ⟨hk,rfl⟩
 ·cases h
theorem pChain_dec {A:Alg} {lv:Nat} {part:Bs→R A.S} (hp:∀ l x l1,part l=.ok (x,l1)→l1.length≤l.length) :
  ∀ (m:Nat) (x:A.S) (l:Bs) (y:A.S) (l1:Bs),pChain A lv part m x l=.ok (y,l1)→l1.length≤l.length
 | 0,x,l,y,l1,h=>by
  unfold pChain at h
  cases h; exact Nat.le_refl _
 | m + 1,x,l,y,l1,h=>by
  unfold pChain at h
  split at h
  ·split at h
   ·split at h
    ·rename_i y' l' hr
     have h1:=hp _ _ _ hr
     have h2:=pChain_dec hp m _ _ _ _ h
     have h3:=next_le l
     omega
    ·cases h
   ·cases h; exact Nat.le_refl _
  ·cases h; exact Nat.le_refl _
theorem pWith_dec {A:Alg} {lv:Nat} {part:Bs→R A.S} (hp:∀ l x l1,part l=.ok (x,l1)→l1.length≤l.length) (l:Bs) (y:A.S) (l1:Bs) (h:pWith A lv part l=.ok (y,l1)):l1.length≤l.length:=by
 unfold pWith at h
 split at h
 ·rename_i x l' hr
  have h1:=hp _ _ _ hr
  have h2:=pChain_dec hp _ _ _ _ _ h
  omega
 ·cases h
theorem pWith_lt {A:Alg} {lv:Nat} {part:Bs→R A.S} (hp:∀ l x l1,part l=.ok (x,l1)→l1.length<l.length) (l:Bs) (y:A.S) (l1:Bs) (h:pWith A lv part l=.ok (y,l1)):l1.length<l.length:=by
 unfold pWith at h
 split at h
 ·rename_i x l' hr
  have h1:=hp _ _ _ hr
  have h2:=pChain_dec (fun l x l1 h=>Nat.le_of_lt (hp l x l1 h)) _ _ _ _ _ h
  omega
 ·cases h
theorem pSum_lt {A:Alg} {u:Bs→R A.S} (hp:∀ l x l1,u l=.ok (x,l1)→l1.length<l.length) (l:Bs) (y:A.S) (l1:Bs) (h:pSum A u l=.ok (y,l1)):l1.length<l.length :=
 pWith_lt (pWith_lt hp) l y l1 h
theorem nameVal_kind {l:Bs} {k:Nat} (h:nameVal l=some k):tokKind l=2:=by
 unfold nameVal at h
 split at h
 ·split at h
  ·rename_i hc; exact hc.1
  ·cases h
 ·cases h
theorem pUnary_lt {A:Alg}:∀ (n o:Nat) (l:Bs) (x:A.S) (l1:Bs),pUnary A n o l=.ok (x,l1)→l1.length<l.length
 | 0,o,l,x,l1,h=>by unfold pUnary bad at h; cases h
 | n + 1,o,l,x,l1,h=>by
  unfold pUnary at h
  split at h
  ·rename_i hk
   split at h
   ·cases h; exact next_lt (tokLen_pos (.inr (.inl hk)))
   ·cases h
  ·split at h
   ·split at h
    ·rename_i k l2 hr
     cases h
     obtain ⟨hk,rfl⟩:=pName_ok_iff hr
     exact next_lt (tokLen_pos (.inl (nameVal_kind hk)))
    ·cases h
   ·split at h
    ·split at h
     ·rename_i l2 hr
      obtain ⟨ht,_,rfl⟩:=enter_ok_iff hr
      have:=next_lt_of_tok ht (by simp)
      split at h
      ·rename_i x2 l3 hr2
       have:=pUnary_lt n _ _ _ _ hr2
       cases h; omega
      ·cases h
     ·cases h
    ·split at h
     ·rename_i l2 hr
      obtain ⟨ht,_,rfl⟩:=enter_ok_iff hr
      have:=next_lt_of_tok ht (by simp)
      split at h
      ·rename_i x2 l3 hr2
       have:=pSum_lt (pUnary_lt n (o + 1)) _ _ _ hr2
       split at h
       ·rename_i l4 hr3
        obtain ⟨_,rfl⟩:=take_ok_iff hr3
        have:=next_le l3
        cases h; omega
       ·cases h
      ·cases h
     ·cases h
end Sp
end Go.Proofs.YtiopfihjmkfdmaaGreatDoor
namespace Go.Proofs.YtiopfihjmkfdmaaGreatDoor
open Go.RowKit Go.WideMaps Go.Maps
set_option maxRecDepth 100000
set_option maxHeartbeats 400000
structure Laid (w:World):Prop where
 size:11≤w.heap.size
 ops:∀ k,k<5→w.cell? ⟨1,k,none⟩=some (.string ⟨(Sp.opSign k).toArray⟩)
 rels:∀ k,k<6→w.cell? ⟨2,k,none⟩=some (.string ⟨(Sp.relSign k).toArray⟩)
 errS:∃ tp p,w.cell? ⟨9,0,none⟩=some (.iface tp p)
 errR:∃ tp p,w.cell? ⟨10,0,none⟩=some (.iface tp p)
 pow:Lib.TabIs Tryz.prog w "internal/strconv.uint64pow10" .u64 Lib.pow10Tab
theorem opSign_calls (k:Nat) (hk:k<5) (w:World) (h:w.cell? ⟨1,k,none⟩=some (.string ⟨(Sp.opSign k).toArray⟩)) :
  Calls Tryz.prog 87 #[.int .i64 k] w fun e w'=>e=.returned (.string ⟨(Sp.opSign k).toArray⟩)∧w'=w:=by
 generalize (⟨(Sp.opSign k).toArray⟩:ByteArray)=t at *
 go_enter Tryz.func87,Tryz.ntmps87
 go_wp2_with fail
 go_ret
 exact ⟨rfl,rfl⟩
theorem relSign_calls (k:Nat) (hk:k<6) (w:World) (h:w.cell? ⟨2,k,none⟩=some (.string ⟨(Sp.relSign k).toArray⟩)) :
  Calls Tryz.prog 88 #[.int .i64 k] w fun e w'=>e=.returned (.string ⟨(Sp.relSign k).toArray⟩)∧w'=w:=by
 generalize (⟨(Sp.relSign k).toArray⟩:ByteArray)=t at *
 go_enter Tryz.func88,Tryz.ntmps88
 go_wp2_with fail
 go_ret
 exact ⟨rfl,rfl⟩
theorem hasSite_calls (k:Nat) (hk:k<5) (w:World) :
  Calls Tryz.prog 240 #[.int .i64 k] w fun e w'=>e=.returned (.bool (decide (3≤k)))∧w'=w:=by
 have hk':k=3∨k=4∨(k<3∧¬ ((k:Int)=3)∧¬ ((k:Int)=4)):=by omega
 rcases hk' with rfl | rfl | ⟨h2,h0,h1⟩
 ·go_enter Tryz.func240,Tryz.ntmps240
  go_wp2_with fail
  go_ret
  exact ⟨rfl,rfl⟩
 ·go_enter Tryz.func240,Tryz.ntmps240
  go_wp2_with fail
  go_ret
  exact ⟨rfl,rfl⟩
 ·have hl:Hid (decide (3≤k)=false):=by unfold Hid; simp; omega
  clear h2 hk
  go_enter Tryz.func240,Tryz.ntmps240
  go_wp2_with fail
  go_ret
  refine ⟨ret_bool ?_,rfl⟩
  rw [hl.out]
  simp [h0,h1]
theorem opLevel_calls (k:Nat) (hk:k<5) (w:World) :
  Calls Tryz.prog 172 #[.int .i64 k] w fun e w'=>e=.returned (.int .i64 (Sp.opLevel k))∧w'=w:=by
 have hk':k=0∨k=1∨(2≤k∧¬ ((k:Int)=0)∧¬ ((k:Int)=1)):=by omega
 rcases hk' with rfl | rfl | ⟨h2,h0,h1⟩
 ·go_enter Tryz.func172,Tryz.ntmps172
  go_wp2_with fail
  go_ret
  exact ⟨rfl,rfl⟩
 ·go_enter Tryz.func172,Tryz.ntmps172
  go_wp2_with fail
  go_ret
  exact ⟨rfl,rfl⟩
 ·have hl:Hid (Sp.opLevel k=1):=by unfold Hid Sp.opLevel; rw [if_neg (by omega)]
  have b0:((k:Int) == 0)=false:=by simp; omega
  have b1:((k:Int) == 1)=false:=by simp; omega
  go_enter Tryz.func172,Tryz.ntmps172
  go_wp2_with fail
  go_ret
  exact ⟨ret_int (by rw [hl.out]; rfl),rfl⟩
theorem law9:Keyed Tryz.prog 9:=string_keyed Tryz.underlying9
theorem zeroOp (w:World):(zeroValue 229).run Tryz.prog w=.ok (.int .i64 0) w:=by kernel_rfl
theorem zeroRel (w:World):(zeroValue 230).run Tryz.prog w=.ok (.int .i64 0) w:=by kernel_rfl
def opsD:Nat→DataW Unit
 | 0=>.map []
 | k + 1=>(opsD k).put (.string (Sp.opSign k)) (.lit (.int .i64 k))
def relsD:Nat→DataW Unit
 | 0=>.map []
 | k + 1=>(relsD k).put (.string (Sp.relSign k)) (.lit (.int .i64 k))
def OpsMap (m:Nat) (w:World):Prop:=w.ownsMap Tryz.prog 9 (plainElem (H:=Unit) Tryz.prog 229) m 5 (opsD 5)
def RelsMap (m:Nat) (w:World):Prop:=w.ownsMap Tryz.prog 9 (plainElem (H:=Unit) Tryz.prog 230) m 6 (relsD 6)
theorem key_of (t:Sp.Bs) (h:t.length≤400):keyOf Tryz.prog 9 (.string ⟨t.toArray⟩)=some (.string t):=by
 have:=keyOf_string_mk (P:=Tryz.prog) (s:=⟨t.toArray⟩) Tryz.underlying9 (by show t.toArray.size≤maxLen; unfold maxLen; simp; omega)
 simpa using this
theorem opSign_len (k:Nat):(Sp.opSign k).length≤400:=by unfold Sp.opSign; split <;> decide
theorem relSign_len (k:Nat):(Sp.relSign k).length≤400:=by unfold Sp.relSign; split <;> decide
theorem ops_calls (w:World) (hL:Laid w) :
  Calls Tryz.prog 56 #[] w fun e w'=>e=.returned (.map (some w.heap.size))∧OpsMap w.heap.size w'∧Below w.heap.size w w':=by
 have hmm:=@run_makeMap Tryz.prog
 go_enter Tryz.func56,Tryz.ntmps56
 go_wp2_with fail
 go_loopw [2] (fun i wr=>∃ k:Nat,k≤5∧i=.int .i64 k∧wr.ownsMap Tryz.prog 9 (plainElem (H:=Unit) Tryz.prog 229) w.heap.size k (opsD k)∧Below w.heap.size w wr)
  (fun i _=>5 - (intOf i).toNat)
 case atStart=>exact ⟨0,Nat.zero_le _,rfl,World.ownsMap_made _ _ _ _,(Below.refl _ _).alloc (Nat.le_refl _) _⟩
 case round =>
  obtain ⟨k,hk,rfl,hown,hnx⟩:=hrel
  by_cases hlt:k<5
  ·have hc:wr.cell? ⟨1,k,none⟩=some (.string ⟨(Sp.opSign k).toArray⟩):=by
    rw [hnx.cell (by have:=hL.size; show 1<w.heap.size; omega)]; exact hL.ops k hlt
   have HC:Hid (wr.cell? ⟨1,k,none⟩=some (.string ⟨(Sp.opSign k).toArray⟩)):=hc
   clear hc
   have hle:(k:Int)≤4:=by omega
   have hkey:=key_of (Sp.opSign k) (opSign_len k)
   have hwf:(Lit.int .i64 (k:Int)).wf=true:=by have:=wrap64_wf (k:Int); rwa [IntWalk.wrap64_in _ (by omega)] at this
   go_wp2_with fail
   refine (opSign_calls k hlt _ HC.out).mono ?_
   rintro e w' ⟨rfl,rfl⟩
   go_wp2_with (first
    | (at_mapUpdate; refine wpList_mapUpdate_own _ rfl _ _ _ 141 rfl 9 229 law9 Tryz.underlying141 _ w.heap.size k _ rfl hown (by unfold maxLen; omega) _ _ _ rfl rfl hkey _ [] (plainElem_int Tryz.underlying229 hwf) ?_)
    | go_in)
   intro w1 hown1 hgrow1
   have R2:=hnx.grown hgrow1 hnx.size (fun j hj=>by cases hj; exact Nat.le_refl _)
   clear hgrow1 hown
   go_wp2_with fail
   exact ⟨⟨k + 1,by omega,by go_num,hown1,R2⟩,by simp [intOf]; omega⟩
  ·have hge:¬ (k:Int)≤4:=by omega
   have e:k=5:=by omega
   subst e
   go_wp2_with fail
   go_ret
   exact ⟨rfl,hown,hnx⟩
theorem rels_calls (w:World) (hL:Laid w) :
  Calls Tryz.prog 57 #[] w fun e w'=>e=.returned (.map (some w.heap.size))∧RelsMap w.heap.size w'∧Below w.heap.size w w':=by
 have hmm:=@run_makeMap Tryz.prog
 go_enter Tryz.func57,Tryz.ntmps57
 go_wp2_with fail
 go_loopw [2] (fun i wr=>∃ k:Nat,k≤6∧i=.int .i64 k∧wr.ownsMap Tryz.prog 9 (plainElem (H:=Unit) Tryz.prog 230) w.heap.size k (relsD k)∧Below w.heap.size w wr)
  (fun i _=>6 - (intOf i).toNat)
 case atStart=>exact ⟨0,Nat.zero_le _,rfl,World.ownsMap_made _ _ _ _,(Below.refl _ _).alloc (Nat.le_refl _) _⟩
 case round =>
  obtain ⟨k,hk,rfl,hown,hnx⟩:=hrel
  by_cases hlt:k<6
  ·have hc:wr.cell? ⟨2,k,none⟩=some (.string ⟨(Sp.relSign k).toArray⟩):=by
    rw [hnx.cell (by have:=hL.size; show 2<w.heap.size; omega)]; exact hL.rels k hlt
   have HC:Hid (wr.cell? ⟨2,k,none⟩=some (.string ⟨(Sp.relSign k).toArray⟩)):=hc
   clear hc
   have hle:(k:Int)≤5:=by omega
   have hkey:=key_of (Sp.relSign k) (relSign_len k)
   have hwf:(Lit.int .i64 (k:Int)).wf=true:=by have:=wrap64_wf (k:Int); rwa [IntWalk.wrap64_in _ (by omega)] at this
   go_wp2_with fail
   refine (relSign_calls k hlt _ HC.out).mono ?_
   rintro e w' ⟨rfl,rfl⟩
   go_wp2_with (first
    | (at_mapUpdate; refine wpList_mapUpdate_own _ rfl _ _ _ 143 rfl 9 230 law9 Tryz.underlying143 _ w.heap.size k _ rfl hown (by unfold maxLen; omega) _ _ _ rfl rfl hkey _ [] (plainElem_int Tryz.underlying230 hwf) ?_)
    | go_in)
   intro w1 hown1 hgrow1
   have R2:=hnx.grown hgrow1 hnx.size (fun j hj=>by cases hj; exact Nat.le_refl _)
   clear hgrow1 hown
   go_wp2_with fail
   exact ⟨⟨k + 1,by omega,by go_num,hown1,R2⟩,by simp [intOf]; omega⟩
  ·have hge:¬ (k:Int)≤5:=by omega
   have e:k=6:=by omega
   subst e
   go_wp2_with fail
   go_ret
   exact ⟨rfl,hown,hnx⟩
end Go.Proofs.YtiopfihjmkfdmaaGreatDoor
namespace Go.Proofs.YtiopfihjmkfdmaaGreatDoor
open Go.RowKit Go.WideMaps Go.Maps
set_option maxRecDepth 100000
set_option maxHeartbeats 400000
theorem opsD_isMap:∀ k,IsMap (opsD k)
 | 0=>isMap_empty
 | k + 1=>(opsD_isMap k).put _ _
theorem relsD_isMap:∀ k,IsMap (relsD k)
 | 0=>isMap_empty
 | k + 1=>(relsD_isMap k).put _ _
theorem lit_ne {a b:Sp.Bs} (h:a ≠ b):(Lit.string a) ≠ Lit.string b:=fun e=>h (Lit.string.inj e)
theorem step_same {D:DataW Unit} (hD:IsMap D) (t:Sp.Bs) (d z:DataW Unit):Maps.has (D.put (.string t) d) (.string t)=true∧(D.put (.string t) d).atKey (.string t) z=d :=
 ⟨has_put_same hD (by simp [WideAt.IsKeyLit]) _,atKey_put_same hD (by simp [WideAt.IsKeyLit]) _ _⟩
theorem step_other {D:DataW Unit} (t u:Sp.Bs) (d z:DataW Unit) (h:u ≠ t):Maps.has (D.put (.string t) d) (.string u)=Maps.has D (.string u)∧(D.put (.string t) d).atKey (.string u) z=D.atKey (.string u) z :=
 ⟨has_put_other (lit_ne h) _,atKey_put_other (lit_ne h) _ _⟩
theorem ops_view (t:Sp.Bs) (z:DataW Unit):Maps.has (opsD 5) (.string t)=(Sp.opOf t).isSome∧(opsD 5).atKey (.string t) z=(match Sp.opOf t with | some k=>.lit (.int .i64 (k:Nat)) | none=>z):=by
 unfold Sp.opOf
 by_cases h0:t=[43]
 ·subst h0
  have e4:=step_other (D:=opsD 4) (Sp.opSign 4) [43] (.lit (.int .i64 (4:Nat))) z (by decide)
  have e3:=step_other (D:=opsD 3) (Sp.opSign 3) [43] (.lit (.int .i64 (3:Nat))) z (by decide)
  have e2:=step_other (D:=opsD 2) (Sp.opSign 2) [43] (.lit (.int .i64 (2:Nat))) z (by decide)
  have e1:=step_other (D:=opsD 1) (Sp.opSign 1) [43] (.lit (.int .i64 (1:Nat))) z (by decide)
  have e0:=step_same (opsD_isMap 0) [43] (.lit (.int .i64 (0:Nat))) z
  exact ⟨(e4.1.trans (e3.1.trans (e2.1.trans (e1.1.trans e0.1)))),(e4.2.trans (e3.2.trans (e2.2.trans (e1.2.trans e0.2))))⟩
 by_cases h1:t=[45]
 ·subst h1
  have e4:=step_other (D:=opsD 4) (Sp.opSign 4) [45] (.lit (.int .i64 (4:Nat))) z (by decide)
  have e3:=step_other (D:=opsD 3) (Sp.opSign 3) [45] (.lit (.int .i64 (3:Nat))) z (by decide)
  have e2:=step_other (D:=opsD 2) (Sp.opSign 2) [45] (.lit (.int .i64 (2:Nat))) z (by decide)
  have e1:=step_same (opsD_isMap 1) [45] (.lit (.int .i64 (1:Nat))) z
  exact ⟨(e4.1.trans (e3.1.trans (e2.1.trans e1.1))),(e4.2.trans (e3.2.trans (e2.2.trans e1.2)))⟩
 by_cases h2:t=[42]
 ·subst h2
  have e4:=step_other (D:=opsD 4) (Sp.opSign 4) [42] (.lit (.int .i64 (4:Nat))) z (by decide)
  have e3:=step_other (D:=opsD 3) (Sp.opSign 3) [42] (.lit (.int .i64 (3:Nat))) z (by decide)
  have e2:=step_same (opsD_isMap 2) [42] (.lit (.int .i64 (2:Nat))) z
  exact ⟨(e4.1.trans (e3.1.trans e2.1)),(e4.2.trans (e3.2.trans e2.2))⟩
 by_cases h3:t=[47]
 ·subst h3
  have e4:=step_other (D:=opsD 4) (Sp.opSign 4) [47] (.lit (.int .i64 (4:Nat))) z (by decide)
  have e3:=step_same (opsD_isMap 3) [47] (.lit (.int .i64 (3:Nat))) z
  exact ⟨(e4.1.trans e3.1),(e4.2.trans e3.2)⟩
 by_cases h4:t=[37]
 ·subst h4
  have e4:=step_same (opsD_isMap 4) [37] (.lit (.int .i64 (4:Nat))) z
  exact ⟨ e4.1,  e4.2⟩
 have e4:=step_other (D:=opsD 4) (Sp.opSign 4) t (.lit (.int .i64 (4:Nat))) z h4
 have e3:=step_other (D:=opsD 3) (Sp.opSign 3) t (.lit (.int .i64 (3:Nat))) z h3
 have e2:=step_other (D:=opsD 2) (Sp.opSign 2) t (.lit (.int .i64 (2:Nat))) z h2
 have e1:=step_other (D:=opsD 1) (Sp.opSign 1) t (.lit (.int .i64 (1:Nat))) z h1
 have e0:=step_other (D:=opsD 0) (Sp.opSign 0) t (.lit (.int .i64 (0:Nat))) z h0
 rw [if_neg h0,if_neg h1,if_neg h2,if_neg h3,if_neg h4]
 exact ⟨(e4.1.trans (e3.1.trans (e2.1.trans (e1.1.trans (e0.1.trans rfl))))),(e4.2.trans (e3.2.trans (e2.2.trans (e1.2.trans (e0.2.trans rfl)))))⟩
theorem rels_view (t:Sp.Bs) (z:DataW Unit):Maps.has (relsD 6) (.string t)=(Sp.relOf t).isSome∧(relsD 6).atKey (.string t) z=(match Sp.relOf t with | some k=>.lit (.int .i64 (k:Nat)) | none=>z):=by
 unfold Sp.relOf
 by_cases h0:t=[60]
 ·subst h0
  have e5:=step_other (D:=relsD 5) (Sp.relSign 5) [60] (.lit (.int .i64 (5:Nat))) z (by decide)
  have e4:=step_other (D:=relsD 4) (Sp.relSign 4) [60] (.lit (.int .i64 (4:Nat))) z (by decide)
  have e3:=step_other (D:=relsD 3) (Sp.relSign 3) [60] (.lit (.int .i64 (3:Nat))) z (by decide)
  have e2:=step_other (D:=relsD 2) (Sp.relSign 2) [60] (.lit (.int .i64 (2:Nat))) z (by decide)
  have e1:=step_other (D:=relsD 1) (Sp.relSign 1) [60] (.lit (.int .i64 (1:Nat))) z (by decide)
  have e0:=step_same (relsD_isMap 0) [60] (.lit (.int .i64 (0:Nat))) z
  exact ⟨(e5.1.trans (e4.1.trans (e3.1.trans (e2.1.trans (e1.1.trans e0.1))))),(e5.2.trans (e4.2.trans (e3.2.trans (e2.2.trans (e1.2.trans e0.2)))))⟩
 by_cases h1:t=[60,61]
 ·subst h1
  have e5:=step_other (D:=relsD 5) (Sp.relSign 5) [60,61] (.lit (.int .i64 (5:Nat))) z (by decide)
  have e4:=step_other (D:=relsD 4) (Sp.relSign 4) [60,61] (.lit (.int .i64 (4:Nat))) z (by decide)
  have e3:=step_other (D:=relsD 3) (Sp.relSign 3) [60,61] (.lit (.int .i64 (3:Nat))) z (by decide)
  have e2:=step_other (D:=relsD 2) (Sp.relSign 2) [60,61] (.lit (.int .i64 (2:Nat))) z (by decide)
  have e1:=step_same (relsD_isMap 1) [60,61] (.lit (.int .i64 (1:Nat))) z
  exact ⟨(e5.1.trans (e4.1.trans (e3.1.trans (e2.1.trans e1.1)))),(e5.2.trans (e4.2.trans (e3.2.trans (e2.2.trans e1.2))))⟩
 by_cases h2:t=[61,61]
 ·subst h2
  have e5:=step_other (D:=relsD 5) (Sp.relSign 5) [61,61] (.lit (.int .i64 (5:Nat))) z (by decide)
  have e4:=step_other (D:=relsD 4) (Sp.relSign 4) [61,61] (.lit (.int .i64 (4:Nat))) z (by decide)
  have e3:=step_other (D:=relsD 3) (Sp.relSign 3) [61,61] (.lit (.int .i64 (3:Nat))) z (by decide)
  have e2:=step_same (relsD_isMap 2) [61,61] (.lit (.int .i64 (2:Nat))) z
  exact ⟨(e5.1.trans (e4.1.trans (e3.1.trans e2.1))),(e5.2.trans (e4.2.trans (e3.2.trans e2.2)))⟩
 by_cases h3:t=[33,61]
 ·subst h3
  have e5:=step_other (D:=relsD 5) (Sp.relSign 5) [33,61] (.lit (.int .i64 (5:Nat))) z (by decide)
  have e4:=step_other (D:=relsD 4) (Sp.relSign 4) [33,61] (.lit (.int .i64 (4:Nat))) z (by decide)
  have e3:=step_same (relsD_isMap 3) [33,61] (.lit (.int .i64 (3:Nat))) z
  exact ⟨(e5.1.trans (e4.1.trans e3.1)),(e5.2.trans (e4.2.trans e3.2))⟩
 by_cases h4:t=[62,61]
 ·subst h4
  have e5:=step_other (D:=relsD 5) (Sp.relSign 5) [62,61] (.lit (.int .i64 (5:Nat))) z (by decide)
  have e4:=step_same (relsD_isMap 4) [62,61] (.lit (.int .i64 (4:Nat))) z
  exact ⟨(e5.1.trans e4.1),(e5.2.trans e4.2)⟩
 by_cases h5:t=[62]
 ·subst h5
  have e5:=step_same (relsD_isMap 5) [62] (.lit (.int .i64 (5:Nat))) z
  exact ⟨ e5.1,  e5.2⟩
 have e5:=step_other (D:=relsD 5) (Sp.relSign 5) t (.lit (.int .i64 (5:Nat))) z h5
 have e4:=step_other (D:=relsD 4) (Sp.relSign 4) t (.lit (.int .i64 (4:Nat))) z h4
 have e3:=step_other (D:=relsD 3) (Sp.relSign 3) t (.lit (.int .i64 (3:Nat))) z h3
 have e2:=step_other (D:=relsD 2) (Sp.relSign 2) t (.lit (.int .i64 (2:Nat))) z h2
 have e1:=step_other (D:=relsD 1) (Sp.relSign 1) t (.lit (.int .i64 (1:Nat))) z h1
 have e0:=step_other (D:=relsD 0) (Sp.relSign 0) t (.lit (.int .i64 (0:Nat))) z h0
 rw [if_neg h0,if_neg h1,if_neg h2,if_neg h3,if_neg h4,if_neg h5]
 exact ⟨(e5.1.trans (e4.1.trans (e3.1.trans (e2.1.trans (e1.1.trans (e0.1.trans rfl)))))),(e5.2.trans (e4.2.trans (e3.2.trans (e2.2.trans (e1.2.trans (e0.2.trans rfl))))))⟩
theorem ops_look {m:Nat} {w:World} (h:OpsMap m w) (t:Sp.Bs) (ht:t.length≤400) :
  (Instr.lookup 141 (.map (some m)) (.string ⟨t.toArray⟩) true).run Tryz.prog w=.ok (.tuple #[.int .i64 (((Sp.opOf t).getD 0:Nat):Int),.bool (Sp.opOf t).isSome]) w:=by
 obtain ⟨v,ps,hrun,hv⟩:=World.ownsMap.look_ok h law9 Tryz.underlying141 (zeroOp w) (plainElem_int Tryz.underlying229 (a:=0) (by decide)) (key_of t ht)
 have hw:=ops_view t (.lit (.int .i64 0))
 rw [hw.1] at hrun
 rw [hw.2] at hv
 obtain ⟨a,rfl,hc,_⟩:=plainElem_int_inv Tryz.underlying229 hv
 rw [hrun]
 cases ho:Sp.opOf t with
 | none=>rw [ho] at hc; simp at hc; simp [← hc.1]
 | some k=>rw [ho] at hc; simp at hc; simp [← hc.1]
theorem rels_look {m:Nat} {w:World} (h:RelsMap m w) (t:Sp.Bs) (ht:t.length≤400) :
  (Instr.lookup 143 (.map (some m)) (.string ⟨t.toArray⟩) true).run Tryz.prog w=.ok (.tuple #[.int .i64 (((Sp.relOf t).getD 0:Nat):Int),.bool (Sp.relOf t).isSome]) w:=by
 obtain ⟨v,ps,hrun,hv⟩:=World.ownsMap.look_ok h law9 Tryz.underlying143 (zeroRel w) (plainElem_int Tryz.underlying230 (a:=0) (by decide)) (key_of t ht)
 have hw:=rels_view t (.lit (.int .i64 0))
 rw [hw.1] at hrun
 rw [hw.2] at hv
 obtain ⟨a,rfl,hc,_⟩:=plainElem_int_inv Tryz.underlying230 hv
 rw [hrun]
 cases ho:Sp.relOf t with
 | none=>rw [ho] at hc; simp at hc; simp [← hc.1]
 | some k=>rw [ho] at hc; simp at hc; simp [← hc.1]
theorem OpsMap.ext {m b:Nat} {w w':World} (h:OpsMap m w) (x:Ext b w w') (hb:m ≠ b):OpsMap m w':=by
 obtain ⟨es,clock,hh,r⟩:=h
 exact ⟨es,clock,x.keep hh hb not_num_map,r⟩
theorem RelsMap.ext {m b:Nat} {w w':World} (h:RelsMap m w) (x:Ext b w w') (hb:m ≠ b):RelsMap m w':=by
 obtain ⟨es,clock,hh,r⟩:=h
 exact ⟨es,clock,x.keep hh hb not_num_map,r⟩
end Go.Proofs.YtiopfihjmkfdmaaGreatDoor
namespace Go.Proofs.YtiopfihjmkfdmaaGreatDoor
open Go.RowKit
set_option maxRecDepth 100000
set_option maxHeartbeats 400000
theorem isLetter_calls (c:UInt8) (w:World) :
  Calls Tryz.prog 119 #[.int .u8 c.toNat] w fun e w'=>e=.returned (.bool (Sp.isLet c))∧w'=w:=by
 go_enter Tryz.func119,Tryz.ntmps119
 go_wp2
 all_goals
  go_ret
  exact ⟨ret_bool (by unfold Sp.isLet; rw [Bool.eq_iff_iff]; simp; omega),rfl⟩
theorem isDigit_calls (c:UInt8) (w:World) :
  Calls Tryz.prog 120 #[.int .u8 c.toNat] w fun e w'=>e=.returned (.bool (Sp.isDig c))∧w'=w:=by
 go_enter Tryz.func120,Tryz.ntmps120
 go_wp2
 all_goals
  go_ret
  exact ⟨ret_bool (by unfold Sp.isDig; rw [Bool.eq_iff_iff]; simp; omega),rfl⟩
def FirstMeet (p:UInt8→Bool) (l:Sp.Bs) (k:Nat):Prop:=∀ j c,j<k→l[j]?=some c→p c=true
theorem FirstMeet.succ {p:UInt8→Bool} {s:ByteArray} {k:Nat} (h:FirstMeet p s.data.toList k) (hk:k<s.size) (hp:p s[k]=true):FirstMeet p s.data.toList (k + 1):=by
 intro j c hj hc
 by_cases e:j=k
 ·subst e
  have:s.data.toList[j]?=some s[j]:=by
   rw [Array.getElem?_toList]; exact Array.getElem?_eq_getElem hk
  rw [this] at hc
  cases hc; exact hp
 ·exact h j c (by omega) hc
theorem headRun_of (p:UInt8→Bool):∀ (l:Sp.Bs) (k:Nat),k≤l.length→FirstMeet p l k→(∀ c,l[k]?=some c→p c=false)→Sp.headRun p l=k
 | [],k,hk,_,_=>by simp at hk; subst hk; rfl
 | c :: r,0,_,_,hs=>by
  rw [Sp.headRun_cons,hs c (by simp)]; rfl
 | c :: r,k + 1,hk,hm,hs=>by
  rw [Sp.headRun_cons,hm 0 c (by omega) (by simp)]
  have:=headRun_of p r k (by simpa using hk) (fun j d hj hd=>hm (j + 1) d (by omega) (by simpa using hd)) (fun d hd=>hs d (by simpa using hd))
  simp [this]
theorem byte_at (s:ByteArray) (k:Nat) (h:k<s.size):s.data.toList[k]?=some s[k]:=by
 rw [Array.getElem?_toList]; exact Array.getElem?_eq_getElem h
theorem byte_none (s:ByteArray) (k:Nat) (h:¬ k<s.size):s.data.toList[k]?=none:=by
 rw [Array.getElem?_toList]; exact Array.getElem?_eq_none (by have:s.data.size=s.size:=rfl; omega)
theorem run_calls_letters (s:ByteArray) (w:World) (hs:s.size≤400) :
  Calls Tryz.prog 118 #[.string s,.func (Fn.func 119) #[] #[]] w fun e w'=>e=.returned (.int .i64 (Sp.headRun Sp.isLet s.data.toList))∧w'=w:=by
 go_enter Tryz.func118,Tryz.ntmps118
 go_wp2
 go_loop [5] (fun n=>∃ k:Nat,k≤s.size∧Hid (FirstMeet Sp.isLet s.data.toList k)∧n=.int .i64 k) (fun i=>s.size - (intOf i).toNat)
 case atStart=>exact ⟨0,Nat.zero_le _,fun _ _ h=>absurd h (Nat.not_lt_zero _),rfl⟩
 case round =>
  obtain ⟨k,hk,hm,rfl⟩:=hrel
  by_cases hlt:k<s.size
  ·go_wp2_with fail
   refine (isLetter_calls s[k] _).mono ?_
   rintro e w' ⟨rfl,rfl⟩
   by_cases hpk:Sp.isLet s[k]=true
   ·have hm1:Hid (FirstMeet Sp.isLet s.data.toList (k + 1)):=hm.out.succ hlt hpk
    go_wp2
    go_round
    case rel=>exact ⟨k + 1,by omega,hm1,by go_num⟩
    case measure=>simp [intOf]; omega
   ·have hpk':Sp.isLet s[k]=false:=by simpa using hpk
    have hr:Hid (Sp.headRun Sp.isLet s.data.toList=k):=headRun_of _ _ _ (by simpa using hk) hm.out (fun c hc=>by rw [byte_at s k hlt] at hc; cases hc; exact hpk')
    go_wp2
    go_ret
    exact ⟨ret_int (by rw [hr.out]),rfl⟩
  ·have hr:Hid (Sp.headRun Sp.isLet s.data.toList=k):=headRun_of _ _ _ (by simpa using hk) hm.out (fun c hc=>by rw [byte_none s k hlt] at hc; cases hc)
   go_wp2
   go_ret
   exact ⟨ret_int (by rw [hr.out]),rfl⟩
theorem run_calls_digits (s:ByteArray) (w:World) (hs:s.size≤400) :
  Calls Tryz.prog 118 #[.string s,.func (Fn.func 120) #[] #[]] w fun e w'=>e=.returned (.int .i64 (Sp.headRun Sp.isDig s.data.toList))∧w'=w:=by
 go_enter Tryz.func118,Tryz.ntmps118
 go_wp2
 go_loop [5] (fun n=>∃ k:Nat,k≤s.size∧Hid (FirstMeet Sp.isDig s.data.toList k)∧n=.int .i64 k) (fun i=>s.size - (intOf i).toNat)
 case atStart=>exact ⟨0,Nat.zero_le _,fun _ _ h=>absurd h (Nat.not_lt_zero _),rfl⟩
 case round =>
  obtain ⟨k,hk,hm,rfl⟩:=hrel
  by_cases hlt:k<s.size
  ·go_wp2_with fail
   refine (isDigit_calls s[k] _).mono ?_
   rintro e w' ⟨rfl,rfl⟩
   by_cases hpk:Sp.isDig s[k]=true
   ·have hm1:Hid (FirstMeet Sp.isDig s.data.toList (k + 1)):=hm.out.succ hlt hpk
    go_wp2
    go_round
    case rel=>exact ⟨k + 1,by omega,hm1,by go_num⟩
    case measure=>simp [intOf]; omega
   ·have hpk':Sp.isDig s[k]=false:=by simpa using hpk
    have hr:Hid (Sp.headRun Sp.isDig s.data.toList=k):=headRun_of _ _ _ (by simpa using hk) hm.out (fun c hc=>by rw [byte_at s k hlt] at hc; cases hc; exact hpk')
    go_wp2
    go_ret
    exact ⟨ret_int (by rw [hr.out]),rfl⟩
  ·have hr:Hid (Sp.headRun Sp.isDig s.data.toList=k):=headRun_of _ _ _ (by simpa using hk) hm.out (fun c hc=>by rw [byte_none s k hlt] at hc; cases hc)
   go_wp2
   go_ret
   exact ⟨ret_int (by rw [hr.out]),rfl⟩
theorem idx_yes (t:ByteArray) (c:UInt8) (w:World) (h:c ∈ t.data.toList) :
  Calls Tryz.prog 163 #[.string t,.int .u8 c.toNat] w fun e w'=>∃ n:Nat,e=.returned (.int .i64 n)∧w'=w:=by
 refine (Tryz.strings_IndexByte t c.toNat w).mono ?_
 rintro e w' ⟨rfl,rfl⟩
 have hc:((c.toNat:Int)).toNat.toUInt8=c:=by simp
 have:=Lib.contains_iff_indexByte t.data.toList c
 rw [List.contains_iff_mem.2 h] at this
 have h0:0≤Lib.indexByte t.data.toList c:=by simpa using this.symm
 exact ⟨(Lib.indexByte t.data.toList c).toNat,by rw [hc,Int.toNat_of_nonneg h0],rfl⟩
theorem idx_no (t:ByteArray) (c:UInt8) (w:World) (h:c ∉ t.data.toList) :
  Calls Tryz.prog 163 #[.string t,.int .u8 c.toNat] w fun e w'=>e=.returned (.int .i64 (-1))∧w'=w:=by
 refine (Tryz.strings_IndexByte t c.toNat w).mono ?_
 rintro e w' ⟨rfl,rfl⟩
 have hc:((c.toNat:Int)).toNat.toUInt8=c:=by simp
 have:=Lib.contains_iff_indexByte t.data.toList c
 have hn:t.data.toList.contains c=false:=by
  cases hh:t.data.toList.contains c
  ·rfl
  ·exact absurd (List.contains_iff_mem.1 hh) h
 rw [hn] at this
 have h0:¬ 0≤Lib.indexByte t.data.toList c:=by simpa using this.symm
 have h1:=Lib.indexByte_ge t.data.toList c
 exact ⟨ret_int (by rw [hc]; omega),rfl⟩
theorem signLen_one (s:ByteArray) (h0:0<s.size) (h1:¬ 1<s.size):Sp.signLen s.data.toList=if s[0] ∈ Sp.ones then 1 else 0:=by
 have e:s.data.toList=[s[0]]:=by
  apply List.ext_getElem?
  intro i
  match i with
  | 0=>rw [byte_at s 0 h0]; rfl
  | i + 1=>rw [byte_none s (i + 1) (by omega)]; rfl
 rw [e,Sp.signLen_cons]
 simp
theorem signLen_more (s:ByteArray) (h1:1<s.size):Sp.signLen s.data.toList=if s[1].toNat=61∧s[0] ∈ Sp.twos then 2 else if s[0] ∈ Sp.ones then 1 else 0:=by
 obtain ⟨c,r,e⟩:∃ c r,s.data.toList=c :: r:=by
  cases h:s.data.toList with
  | nil=>have:=byte_at s 0 (by omega); rw [h] at this; cases this
  | cons c r=>exact ⟨c,r,rfl⟩
 have h0':=byte_at s 0 (by omega)
 have h1':=byte_at s 1 h1
 rw [e] at h0' h1' ⊢
 simp at h0' h1'
 have e1:s[1].toNat=61 ↔ s[1]=61:=⟨fun h=>UInt8.toNat_inj.1 h,fun h=>by rw [h]; rfl⟩
 rw [Sp.signLen_cons,List.head?_eq_getElem?,h1',h0']
 simp only [Option.some.injEq,e1]
theorem signSize_calls (s:ByteArray) (w:World) (h0:0<s.size) (hs:s.size≤400) :
  Calls Tryz.prog 121 #[.string s] w fun e w'=>e=.returned (.int .i64 (Sp.signLen s.data.toList))∧w'=w:=by
 by_cases h1:1<s.size
 ·have hf:Hid (Sp.signLen s.data.toList=if s[1].toNat=61∧s[0] ∈ Sp.twos then 2 else if s[0] ∈ Sp.ones then 1 else 0):=signLen_more s h1
  by_cases h2:s[1].toNat=61
  ·by_cases h3:s[0] ∈ Sp.twos
   ·have hr:Hid (Sp.signLen s.data.toList=2):=by unfold Hid; rw [hf.out,if_pos ⟨h2,h3⟩]
    have H3:=h3
    clear hf h3
    go_enter Tryz.func121,Tryz.ntmps121
    go_wp2_with fail
    refine (idx_yes _ _ _ H3).mono ?_
    rintro e w' ⟨n,rfl,rfl⟩
    go_wp2_with fail
    go_ret
    exact ⟨ret_int (by rw [hr.out]; rfl),rfl⟩
   ·by_cases h4:s[0] ∈ Sp.ones
    ·have hr:Hid (Sp.signLen s.data.toList=1):=by unfold Hid; rw [hf.out,if_neg (fun h=>h3 h.2),if_pos h4]
     have H3:=h3
     have H4:=h4
     clear hf h3 h4
     go_enter Tryz.func121,Tryz.ntmps121
     go_wp2_with fail
     refine (idx_no _ _ _ H3).mono ?_
     rintro e w' ⟨rfl,rfl⟩
     go_wp2_with fail
     refine (idx_yes _ _ _ H4).mono ?_
     rintro e w' ⟨n,rfl,rfl⟩
     go_wp2_with fail
     go_ret
     exact ⟨ret_int (by rw [hr.out]; rfl),rfl⟩
    ·have hr:Hid (Sp.signLen s.data.toList=0):=by unfold Hid; rw [hf.out,if_neg (fun h=>h3 h.2),if_neg h4]
     have H3:=h3
     have H4:=h4
     clear hf h3 h4
     go_enter Tryz.func121,Tryz.ntmps121
     go_wp2_with fail
     refine (idx_no _ _ _ H3).mono ?_
     rintro e w' ⟨rfl,rfl⟩
     go_wp2_with fail
     refine (idx_no _ _ _ H4).mono ?_
     rintro e w' ⟨rfl,rfl⟩
     go_wp2_with fail
     go_ret
     exact ⟨ret_int (by rw [hr.out]; rfl),rfl⟩
  ·have h2':¬ ((s[1].toNat:Int)=61):=by omega
   by_cases h4:s[0] ∈ Sp.ones
   ·have hr:Hid (Sp.signLen s.data.toList=1):=by unfold Hid; rw [hf.out,if_neg (fun h=>h2 h.1),if_pos h4]
    have H4:=h4
    clear hf h4 h2
    go_enter Tryz.func121,Tryz.ntmps121
    go_wp2_with fail
    refine (idx_yes _ _ _ H4).mono ?_
    rintro e w' ⟨n,rfl,rfl⟩
    go_wp2_with fail
    go_ret
    exact ⟨ret_int (by rw [hr.out]; rfl),rfl⟩
   ·have hr:Hid (Sp.signLen s.data.toList=0):=by unfold Hid; rw [hf.out,if_neg (fun h=>h2 h.1),if_neg h4]
    have H4:=h4
    clear hf h4 h2
    go_enter Tryz.func121,Tryz.ntmps121
    go_wp2_with fail
    refine (idx_no _ _ _ H4).mono ?_
    rintro e w' ⟨rfl,rfl⟩
    go_wp2_with fail
    go_ret
    exact ⟨ret_int (by rw [hr.out]; rfl),rfl⟩
 ·have hf:Hid (Sp.signLen s.data.toList=if s[0] ∈ Sp.ones then 1 else 0):=signLen_one s h0 h1
  by_cases h4:s[0] ∈ Sp.ones
  ·have hr:Hid (Sp.signLen s.data.toList=1):=by unfold Hid; rw [hf.out,if_pos h4]
   have H4:=h4
   clear hf h4
   go_enter Tryz.func121,Tryz.ntmps121
   go_wp2_with fail
   refine (idx_yes _ _ _ H4).mono ?_
   rintro e w' ⟨n,rfl,rfl⟩
   go_wp2_with fail
   go_ret
   exact ⟨ret_int (by rw [hr.out]; rfl),rfl⟩
  ·have hr:Hid (Sp.signLen s.data.toList=0):=by unfold Hid; rw [hf.out,if_neg h4]
   have H4:=h4
   clear hf h4
   go_enter Tryz.func121,Tryz.ntmps121
   go_wp2_with fail
   refine (idx_no _ _ _ H4).mono ?_
   rintro e w' ⟨rfl,rfl⟩
   go_wp2_with fail
   go_ret
   exact ⟨ret_int (by rw [hr.out]; rfl),rfl⟩
end Go.Proofs.YtiopfihjmkfdmaaGreatDoor
namespace Go.Proofs.YtiopfihjmkfdmaaGreatDoor
open Go.RowKit
set_option maxRecDepth 100000
set_option maxHeartbeats 400000
theorem measure_calls (s:ByteArray) (w:World) (hs:s.size≤400) :
  Calls Tryz.prog 86 #[.string s] w fun e w'=>e=.returned (.tuple #[.int .i64 (Sp.tokKind s.data.toList),.int .i64 (Sp.tokLen s.data.toList)])∧w'=w:=by
 cases hl:s.data.toList with
 | nil =>
  have hb:s.toList.isEmpty=true:=by rw [ByteArray.toList_eq,hl]; rfl
  have HL:Hid (s.data.toList=[]):=hl
  clear hl
  go_enter Tryz.func86,Tryz.ntmps86
  go_wp2_with fail
  go_ret2
  exact ⟨rfl,rfl⟩
 | cons c r =>
  have hb:s.toList.isEmpty=false:=by rw [ByteArray.toList_eq,hl]; rfl
  have h0:0<s.size:=by
   have:s.data.toList.length=s.size:=by simp
   rw [hl] at this; simp at this; omega
  have e1:Sp.headRun Sp.isLet s.data.toList=if Sp.isLet c then Sp.headRun Sp.isLet r + 1 else 0:=by rw [hl,Sp.headRun_cons]
  have e2:Sp.headRun Sp.isDig s.data.toList=if Sp.isDig c then Sp.headRun Sp.isDig r + 1 else 0:=by rw [hl,Sp.headRun_cons]
  by_cases hc:Sp.isLet c=true
  ·have hk:Hid (Sp.tokKind (c :: r)=2):=by unfold Hid; rw [Sp.tokKind_cons,if_pos hc]
   have hn:Hid (Sp.tokLen (c :: r)=Sp.headRun Sp.isLet s.data.toList):=by unfold Hid; rw [Sp.tokLen_cons,if_pos hc,hl]
   have hp:(0:Int)<(Sp.headRun Sp.isLet s.data.toList:Nat):=by rw [e1,if_pos hc]; omega
   clear e1 e2 hl hc
   go_enter Tryz.func86,Tryz.ntmps86
   go_wp2_with fail
   refine (run_calls_letters s _ hs).mono ?_
   rintro e w' ⟨rfl,rfl⟩
   go_wp2_with fail
   go_ret2
   exact ⟨by rw [hk.out,hn.out]; rfl,rfl⟩
  ·have hp:((Sp.headRun Sp.isLet s.data.toList:Nat):Int)=0:=by rw [e1,if_neg hc]; rfl
   have Hp:Hid (((Sp.headRun Sp.isLet s.data.toList:Nat):Int)=0):=hp
   by_cases hd:Sp.isDig c=true
   ·have hk:Hid (Sp.tokKind (c :: r)=3):=by unfold Hid; rw [Sp.tokKind_cons,if_neg hc,if_pos hd]
    have hn:Hid (Sp.tokLen (c :: r)=Sp.headRun Sp.isDig s.data.toList):=by unfold Hid; rw [Sp.tokLen_cons,if_neg hc,if_pos hd,hl]
    have hp2:(0:Int)<(Sp.headRun Sp.isDig s.data.toList:Nat):=by rw [e2,if_pos hd]; omega
    clear e1 e2 hl hc hd hp
    go_enter Tryz.func86,Tryz.ntmps86
    go_wp2_with fail
    refine (run_calls_letters s _ hs).mono ?_
    rintro e w' ⟨rfl,rfl⟩
    rw [Hp.out]
    go_wp2_with fail
    refine (run_calls_digits s _ hs).mono ?_
    rintro e w' ⟨rfl,rfl⟩
    go_wp2_with fail
    go_ret2
    exact ⟨by rw [hk.out,hn.out]; rfl,rfl⟩
   ·have hp2:((Sp.headRun Sp.isDig s.data.toList:Nat):Int)=0:=by rw [e2,if_neg hd]; rfl
    have Hp2:Hid (((Sp.headRun Sp.isDig s.data.toList:Nat):Int)=0):=hp2
    have hn:Hid (Sp.tokLen (c :: r)=Sp.signLen s.data.toList):=by unfold Hid; rw [Sp.tokLen_cons,if_neg hc,if_neg hd,hl]
    by_cases hsg:0<Sp.signLen s.data.toList
    ·have hk:Hid (Sp.tokKind (c :: r)=4):=by unfold Hid; rw [Sp.tokKind_cons,if_neg hc,if_neg hd,if_pos (by rw [← hl]; exact hsg)]
     have hp3:(0:Int)<(Sp.signLen s.data.toList:Nat):=by omega
     clear e1 e2 hl hc hd hp hp2 hsg
     go_enter Tryz.func86,Tryz.ntmps86
     go_wp2_with fail
     refine (run_calls_letters s _ hs).mono ?_
     rintro e w' ⟨rfl,rfl⟩
     rw [Hp.out]
     go_wp2_with fail
     refine (run_calls_digits s _ hs).mono ?_
     rintro e w' ⟨rfl,rfl⟩
     rw [Hp2.out]
     go_wp2_with fail
     refine (signSize_calls s _ h0 hs).mono ?_
     rintro e w' ⟨rfl,rfl⟩
     go_wp2_with fail
     go_ret2
     exact ⟨by rw [hk.out,hn.out]; rfl,rfl⟩
    ·have hk:Hid (Sp.tokKind (c :: r)=0):=by unfold Hid; rw [Sp.tokKind_cons,if_neg hc,if_neg hd,if_neg (by rw [← hl]; exact hsg)]
     have Hp3:Hid (((Sp.signLen s.data.toList:Nat):Int)=0):=by unfold Hid; omega
     clear e1 e2 hl hc hd hp hp2 hsg
     go_enter Tryz.func86,Tryz.ntmps86
     go_wp2_with fail
     refine (run_calls_letters s _ hs).mono ?_
     rintro e w' ⟨rfl,rfl⟩
     rw [Hp.out]
     go_wp2_with fail
     refine (run_calls_digits s _ hs).mono ?_
     rintro e w' ⟨rfl,rfl⟩
     rw [Hp2.out]
     go_wp2_with fail
     refine (signSize_calls s _ h0 hs).mono ?_
     rintro e w' ⟨rfl,rfl⟩
     rw [Hp3.out]
     go_wp2_with fail
     go_ret2
     exact ⟨by rw [hk.out,hn.out,Hp3.out]; rfl,rfl⟩
theorem blank_iff (c:UInt8):Sp.isBlank c=true ↔ ((c.toNat:Int)=32∨(c.toNat:Int)=10):=by
 unfold Sp.isBlank
 rw [Bool.or_eq_true,beq_iff_eq,beq_iff_eq,← UInt8.toNat_inj,← UInt8.toNat_inj]
 show c.toNat=32∨c.toNat=10 ↔ _
 omega
def Blanks (l:Sp.Bs) (a k:Nat):Prop:=Sp.skip (l.drop a)=Sp.skip (l.drop k)
theorem Blanks.succ {s:ByteArray} {a k:Nat} (h:Blanks s.data.toList a k) (hk:k<s.size) (hb:Sp.isBlank s[k]=true):Blanks s.data.toList a (k + 1):=by
 unfold Blanks at *
 rw [h]
 have:s.data.toList.drop k=s[k] :: s.data.toList.drop (k + 1):=by
  rw [List.drop_eq_getElem_cons (by simpa using hk)]; rfl
 rw [this]
 unfold Sp.skip
 rw [List.dropWhile_cons,if_pos hb]
theorem Blanks.stop {s:ByteArray} {a k:Nat} (h:Blanks s.data.toList a k) (hb:∀ hk:k<s.size,Sp.isBlank s[k]=false):Sp.skip (s.data.toList.drop a)=s.data.toList.drop k:=by
 rw [h]
 by_cases hk:k<s.size
 ·have:s.data.toList.drop k=s[k] :: s.data.toList.drop (k + 1):=by
   rw [List.drop_eq_getElem_cons (by simpa using hk)]; rfl
  rw [this]
  unfold Sp.skip
  rw [List.dropWhile_cons,if_neg (by rw [hb hk]; simp)]
 ·rw [List.drop_of_length_le (by simpa using hk)]; rfl
def tokVal (s:ByteArray) (l:Sp.Bs):Array Value:=#[.int .i64 ((s.size - l.length:Nat):Int),.int .i64 (Sp.tokKind l),.string ⟨(Sp.tok l).toArray⟩]
theorem bytes_ext {a b:ByteArray} (h:a.data.toList=b.data.toList):a=b:=by
 cases a; cases b; simp at h; simp [h]
theorem tokVal_of (s:ByteArray) (k:Nat) (hk:k≤s.size):tokVal s (s.data.toList.drop k)=#[.int .i64 k,.int .i64 (Sp.tokKind (s.data.toList.drop k)),.string (s.extract k (k + Sp.tokLen (s.data.toList.drop k)))]:=by
 unfold tokVal
 have h1:s.size - (s.data.toList.drop k).length=k:=by
  rw [List.length_drop]; have:s.data.toList.length=s.size:=by simp
  omega
 have h2:(⟨(Sp.tok (s.data.toList.drop k)).toArray⟩:ByteArray)=s.extract k (k + Sp.tokLen (s.data.toList.drop k)):=by
  apply bytes_ext
  rw [Lib.extract_data]
  simp [Sp.tok]
 rw [h1,h2]
theorem extract_rest (s:ByteArray) (k:Nat):(s.extract k s.size).data.toList=s.data.toList.drop k:=by
 rw [Lib.extract_data]
 apply List.take_of_length_le
 simp
theorem tokLen_room (s:ByteArray) (k:Nat) (hk:k≤s.size):k + Sp.tokLen (s.data.toList.drop k)≤s.size:=by
 have:=Sp.tokLen_le (s.data.toList.drop k)
 rw [List.length_drop] at this
 have h:s.data.toList.length=s.size:=by simp
 omega
theorem scan_calls (s:ByteArray) (a:Nat) (w:World) (ha:a≤s.size) (hs:s.size≤400) :
  Calls Tryz.prog 55 #[.string s,.int .i64 a] w fun e w'=>e=.returned (.agg (tokVal s (Sp.skip (s.data.toList.drop a))))∧Below w.heap.size w w':=by
 go_enter Tryz.func55,Tryz.ntmps55
 go_wp2
 go_loop [1] (fun n=>∃ k:Nat,k≤s.size∧Hid (Blanks s.data.toList a k)∧n=.int .i64 k) (fun i=>s.size - (intOf i).toNat)
 case atStart=>exact ⟨a,ha,rfl,rfl⟩
 case round =>
  obtain ⟨k,hk,hm,rfl⟩:=hrel
  have hx:Hid ((s.extract k s.size).data.toList=s.data.toList.drop k):=extract_rest s k
  have hv:Hid (tokVal s (s.data.toList.drop k)=#[.int .i64 k,.int .i64 (Sp.tokKind (s.data.toList.drop k)),.string (s.extract k (k + Sp.tokLen (s.data.toList.drop k)))]):=tokVal_of s k hk
  have hroom:=tokLen_room s k hk
  have hsz:(s.extract k s.size).size≤400:=by simp; omega
  have HSZ:Hid ((s.extract k s.size).size≤400):=hsz
  clear hsz
  by_cases hlt:k<s.size
  ·by_cases h32:((s[k].toNat:Int)=32)
   ·have hm1:Hid (Blanks s.data.toList a (k + 1)):=hm.out.succ hlt ((blank_iff _).2 (.inl h32))
    clear hroom
    go_wp2_with fail
    exact ⟨⟨k + 1,by omega,hm1,by go_num⟩,by simp [intOf]; omega⟩
   ·by_cases h10:((s[k].toNat:Int)=10)
    ·have hm1:Hid (Blanks s.data.toList a (k + 1)):=hm.out.succ hlt ((blank_iff _).2 (.inr h10))
     clear hroom
     go_wp2_with fail
     exact ⟨⟨k + 1,by omega,hm1,by go_num⟩,by simp [intOf]; omega⟩
    ·have hst:Hid (Sp.skip (s.data.toList.drop a)=s.data.toList.drop k):=hm.out.stop (fun _=>by
      cases hb:Sp.isBlank s[k]
      ·rfl
      ·exact absurd ((blank_iff _).1 hb) (fun h=>h.elim h32 h10))
     have h32b:((s[k].toNat:Int) == 32)=false:=by simpa using h32
     have h10b:((s[k].toNat:Int) == 10)=false:=by simpa using h10
     have hfin:Hid (tokVal s (Sp.skip (s.data.toList.drop a))=#[.int .i64 k,.int .i64 (Sp.tokKind (s.data.toList.drop k)),.string (s.extract k (k + Sp.tokLen (s.data.toList.drop k)))]):=by unfold Hid; rw [hst.out,hv.out]
     clear hst hv hm
     go_wp2_with fail
     refine (measure_calls _ _ HSZ.out).mono ?_
     rintro e w' ⟨rfl,rfl⟩
     rw [hx.out]
     generalize Sp.tokLen (s.data.toList.drop k)=m at *
     generalize Sp.tokKind (s.data.toList.drop k)=kd at *
     go_wp2_with fail
     refine bodyPost_ret (v:=.agg #[.int .i64 k,.int .i64 kd,.string (s.extract k (k + m))]) (by simp [results,Tryz.results55,go_sem]) rfl ⟨by rw [hfin.out],?_⟩
     exact (Below.refl _ _).alloc (Nat.le_refl _) _
  ·have hst:Hid (Sp.skip (s.data.toList.drop a)=s.data.toList.drop k):=hm.out.stop (fun h=>absurd h hlt)
   have hfin:Hid (tokVal s (Sp.skip (s.data.toList.drop a))=#[.int .i64 k,.int .i64 (Sp.tokKind (s.data.toList.drop k)),.string (s.extract k (k + Sp.tokLen (s.data.toList.drop k)))]):=by unfold Hid; rw [hst.out,hv.out]
   clear hst hv hm
   go_wp2_with fail
   refine (measure_calls _ _ HSZ.out).mono ?_
   rintro e w' ⟨rfl,rfl⟩
   rw [hx.out]
   generalize Sp.tokLen (s.data.toList.drop k)=m at *
   generalize Sp.tokKind (s.data.toList.drop k)=kd at *
   go_wp2_with fail
   refine bodyPost_ret (v:=.agg #[.int .i64 k,.int .i64 kd,.string (s.extract k (k + m))]) (by simp [results,Tryz.results55,go_sem]) rfl ⟨by rw [hfin.out],?_⟩
   exact (Below.refl _ _).alloc (Nat.le_refl _) _
end Go.Proofs.YtiopfihjmkfdmaaGreatDoor
