import Derived.Test.YtiopfihjmkfdmaaGreatDoorX3
import Derived.Deep.MidRow
import Derived.Deep.RegionHeld3
import Derived.Deep.RegionWith
import Derived.Deep.Upon
import Derived.Handy
namespace Go.Proofs.YtiopfihjmkfdmaaGreatDoor
section
variable {α β : Type} {f : α → List β} {k : Nat}
theorem chunk_len (hk:∀ a,(f a).length=k):∀ l:List α,(l.flatMap f).length=l.length * k
 | []=>by simp
 | a :: l=>by rw [List.flatMap_cons,List.length_append,hk,chunk_len hk l,List.length_cons,Nat.add_mul,Nat.one_mul,Nat.add_comm]
theorem chunk_get (hk:∀ a,(f a).length=k):∀ (l:List α) (p:Nat) (a:α) (j:Nat),l[p]?=some a→j<k→(l.flatMap f)[p * k + j]?=(f a)[j]?
 | [],_,_,_,h,_=>by simp at h
 | b :: l,0,a,j,h,hj=>by
  have:b=a:=by simpa using h
  subst this
  rw [List.flatMap_cons,Nat.zero_mul,Nat.zero_add,List.getElem?_append_left (by rw [hk]; exact hj)]
 | b :: l,p + 1,a,j,h,hj=>by
  rw [List.flatMap_cons,List.getElem?_append_right (by rw [hk,Nat.add_mul]; omega),hk,show (p + 1) * k + j - k=p * k + j by rw [Nat.add_mul]; omega]
  exact chunk_get hk l p a j (by simpa using h) hj
theorem chunk_set (hk:∀ a,(f a).length=k):∀ (l:List α) (p:Nat) (a:α) (i:Nat),p<l.length→((l.set p a).flatMap f)[i]?=if p * k≤i∧i<p * k + k then (f a)[i - p * k]? else (l.flatMap f)[i]?
 | [],_,_,_,h=>by simp at h
 | b :: l,0,a,i,_=>by
  rw [List.set_cons_zero,List.flatMap_cons,List.flatMap_cons,Nat.zero_mul,Nat.zero_add,Nat.sub_zero]
  by_cases hi:i<k
  ·rw [if_pos ⟨Nat.zero_le _,hi⟩,List.getElem?_append_left (by rw [hk]; exact hi)]
  ·rw [if_neg (by omega),List.getElem?_append_right (by rw [hk]; omega),List.getElem?_append_right (by rw [hk]; omega),hk,hk]
 | b :: l,p + 1,a,i,h=>by
  rw [List.set_cons_succ,List.flatMap_cons,List.flatMap_cons]
  by_cases hi:i<k
  ·rw [List.getElem?_append_left (by rw [hk]; exact hi),List.getElem?_append_left (by rw [hk]; exact hi),if_neg (by rw [Nat.add_mul]; omega)]
  ·rw [List.getElem?_append_right (by rw [hk]; omega),List.getElem?_append_right (by rw [hk]; omega),hk,chunk_set hk l p a (i - k) (by simpa using h)]
   by_cases hc:p * k≤i - k∧i - k<p * k + k
   ·rw [if_pos hc,if_pos (by rw [Nat.add_mul]; omega),show i - (p + 1) * k=i - k - p * k by rw [Nat.add_mul]; omega]
   ·rw [if_neg hc,if_neg (by rw [Nat.add_mul]; omega)]
end
end Go.Proofs.YtiopfihjmkfdmaaGreatDoor
namespace Go.Proofs.YtiopfihjmkfdmaaGreatDoor
open Go.RowKit
theorem gsb.{u}:(∀ {α:Type u} (xs:List α) (i:Nat) (h:i<xs.toArray.size),xs.toArray[i]=xs[i]'(by simpa using h))∧(∀ {α:Type u} (a:α) (l:List α) (i:Nat) (h:i + 1<(a :: l).length),(a :: l)[i + 1]=l[i]'(Nat.lt_of_succ_lt_succ h))∧(∀ {α:Type u} (a:α) (l:List α) (h:0<(a :: l).length),(a :: l)[0]=a) :=
 ⟨fun _ _ _=>List.getElem_toArray _,fun _ _ _ _=>rfl,fun _ _ _=>rfl⟩
theorem gsa.{u}:(∀ {α:Type u} (l:List α) (i:Nat) (a:α),l.toArray.setIfInBounds i a=(l.set i a).toArray)∧(∀ {α:Type u} (x:α) (xs:List α) (n:Nat) (a:α),(x :: xs).set (n + 1) a=x :: xs.set n a)∧(∀ {α:Type u} (x:α) (xs:List α) (a:α),(x :: xs).set 0 a=a :: xs) :=
 ⟨fun _ _ _=>List.setIfInBounds_toArray _ _ _,fun _ _ _ _=>rfl,fun _ _ _=>rfl⟩
section
variable {P : Program} {ops : Array Oper} {Q : Exit → Act → World → Prop} {md : Region.Mode} {S : World → Prop} {fuel : Nat} {listed : Array Bool} {a : Act} {w : World}
theorem rd1 (i:Nat) {o:Oper} (h:∀ K':Act→World→Prop,Shut (∀ a w,S w→(S w→wpAnyH P md ops Q S fuel (listed.setIfInBounds i true) a w)→K' a w)→if Region.wanted o (yielded ops a.tmps)=true then Oper.wp P o a w K' Q else K' (a.put o.dst undef) w)
  (hr:Region.ready md ops listed=[i]:=by kernel_rfl) (ho:ops[i]?=some o:=by rfl):wpAnyH P md ops Q S (fuel + 1) listed a w :=
 wpAnyH_ready hr (by simp) (AllReadyH.cons ho h AllReadyH.nil)
theorem rd2 (i j:Nat) {o p:Oper} (h:∀ K':Act→World→Prop,Shut (∀ a w,S w→(S w→wpAnyH P md ops Q S fuel (listed.setIfInBounds i true) a w)→K' a w)→if Region.wanted o (yielded ops a.tmps)=true then Oper.wp P o a w K' Q else K' (a.put o.dst undef) w)
  (h':∀ K':Act→World→Prop,Shut (∀ a w,S w→(S w→wpAnyH P md ops Q S fuel (listed.setIfInBounds j true) a w)→K' a w)→if Region.wanted p (yielded ops a.tmps)=true then Oper.wp P p a w K' Q else K' (a.put p.dst undef) w)
  (hr:Region.ready md ops listed=[i,j]:=by kernel_rfl) (ho:ops[i]?=some o:=by rfl) (hp:ops[j]?=some p:=by rfl):wpAnyH P md ops Q S (fuel + 1) listed a w :=
 wpAnyH_ready hr (by simp) (AllReadyH.cons ho h (AllReadyH.cons hp h' AllReadyH.nil))
theorem rd3 (i j k:Nat) {o p r:Oper} (h:∀ K':Act→World→Prop,Shut (∀ a w,S w→(S w→wpAnyH P md ops Q S fuel (listed.setIfInBounds i true) a w)→K' a w)→if Region.wanted o (yielded ops a.tmps)=true then Oper.wp P o a w K' Q else K' (a.put o.dst undef) w)
  (h':∀ K':Act→World→Prop,Shut (∀ a w,S w→(S w→wpAnyH P md ops Q S fuel (listed.setIfInBounds j true) a w)→K' a w)→if Region.wanted p (yielded ops a.tmps)=true then Oper.wp P p a w K' Q else K' (a.put p.dst undef) w)
  (h2:∀ K':Act→World→Prop,Shut (∀ a w,S w→(S w→wpAnyH P md ops Q S fuel (listed.setIfInBounds k true) a w)→K' a w)→if Region.wanted r (yielded ops a.tmps)=true then Oper.wp P r a w K' Q else K' (a.put r.dst undef) w)
  (hr:Region.ready md ops listed=[i,j,k]:=by kernel_rfl) (ho:ops[i]?=some o:=by rfl) (hp:ops[j]?=some p:=by rfl) (hq:ops[k]?=some r:=by rfl):wpAnyH P md ops Q S (fuel + 1) listed a w :=
 wpAnyH_ready hr (by simp) (AllReadyH.cons ho h (AllReadyH.cons hp h' (AllReadyH.cons hq h2 AllReadyH.nil)))
theorem rd4 (i j k l:Nat) {o p r s:Oper} (h:∀ K':Act→World→Prop,Shut (∀ a w,S w→(S w→wpAnyH P md ops Q S fuel (listed.setIfInBounds i true) a w)→K' a w)→if Region.wanted o (yielded ops a.tmps)=true then Oper.wp P o a w K' Q else K' (a.put o.dst undef) w)
  (h':∀ K':Act→World→Prop,Shut (∀ a w,S w→(S w→wpAnyH P md ops Q S fuel (listed.setIfInBounds j true) a w)→K' a w)→if Region.wanted p (yielded ops a.tmps)=true then Oper.wp P p a w K' Q else K' (a.put p.dst undef) w)
  (h2:∀ K':Act→World→Prop,Shut (∀ a w,S w→(S w→wpAnyH P md ops Q S fuel (listed.setIfInBounds k true) a w)→K' a w)→if Region.wanted r (yielded ops a.tmps)=true then Oper.wp P r a w K' Q else K' (a.put r.dst undef) w)
  (h3:∀ K':Act→World→Prop,Shut (∀ a w,S w→(S w→wpAnyH P md ops Q S fuel (listed.setIfInBounds l true) a w)→K' a w)→if Region.wanted s (yielded ops a.tmps)=true then Oper.wp P s a w K' Q else K' (a.put s.dst undef) w)
  (hr:Region.ready md ops listed=[i,j,k,l]:=by kernel_rfl) (ho:ops[i]?=some o:=by rfl) (hp:ops[j]?=some p:=by rfl) (hq:ops[k]?=some r:=by rfl) (hs:ops[l]?=some s:=by rfl):wpAnyH P md ops Q S (fuel + 1) listed a w :=
 wpAnyH_ready hr (by simp) (AllReadyH.cons ho h (AllReadyH.cons hp h' (AllReadyH.cons hq h2 (AllReadyH.cons hs h3 AllReadyH.nil))))
theorem tky (i:Nat) {oi:Oper} {v:Value} (hi:ops[i]?=some oi) (hy:YieldsIf P ops S oi v a) (hS:S w) (h:wpAnyH P md ops Q S fuel (listed.setIfInBounds i true) (a.put oi.dst v) w)
  (hs:Region.noSelect ops=true:=by kernel_rfl) (hf:Region.free md ops listed i=true:=by kernel_rfl) (hr:(Region.ready md ops listed).contains i=true:=by kernel_rfl) (hQ:∀ c a w,Q (.panic c) (a.put oi.dst v) w→Q (.panic c) a w:=by exact fun _ _ _ h=>h):wpAnyH P md ops Q S (fuel + 1) listed a w :=
 wpAnyH_take hi hs hf hr hQ hy hS h
theorem tk (i:Nat) (v:Value) {oi:Oper} (hi:ops[i]?=some oi) (hy:∀ w,S w→(execOp a.eval oi).run P w=.ok (.value v) w) (hS:S w) (h:wpAnyH P md ops Q S fuel (listed.setIfInBounds i true) (a.put oi.dst v) w)
  (hw:Region.wanted oi (yielded ops a.tmps)=true:=by rfl) (hs:Region.noSelect ops=true:=by kernel_rfl) (hf:Region.free md ops listed i=true:=by kernel_rfl) (hr:(Region.ready md ops listed).contains i=true:=by kernel_rfl) (hQ:∀ c a w,Q (.panic c) (a.put oi.dst v) w→Q (.panic c) a w:=by exact fun _ _ _ h=>h):wpAnyH P md ops Q S (fuel + 1) listed a w :=
 wpAnyH_take hi hs hf hr hQ (.inl ⟨hw,hy⟩) hS h
end
end Go.Proofs.YtiopfihjmkfdmaaGreatDoor
