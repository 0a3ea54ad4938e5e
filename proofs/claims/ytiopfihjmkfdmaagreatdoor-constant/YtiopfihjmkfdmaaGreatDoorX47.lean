import Derived.Test.YtiopfihjmkfdmaaGreatDoorX46
namespace Go.Proofs.YtiopfihjmkfdmaaGreatDoor
namespace WC
open Go.RowKit
set_option maxRecDepth 100000
set_option maxHeartbeats 8000000
structure SnAt (w:World) (cf:Array Value) (k9 k11:Nat) (va:Option Addr) (vn vc:Nat) (stop:Int) (vis:List (Int × List Int)) (a:Option Addr) (q c:Nat) (a':Option Addr) (m c':Nat) (F:FdI) (W:World):Prop where
 l:Laid2 W
 g:W.heap[w.heap.size]?=some (.cells cf 58)
 t:W.heap[k9]?=some (.cells #[.slice va vn vc,.int .i64 stop] 41)
 r:W.heap[k11]?=some (.cells #[.slice a q c,.slice a' m c'] 64)
 v:VisAt W (.slice va vn vc) vis
 f:RepV W a q a' m F
 b:Below w.heap.size w W
theorem SnAt.call {w:World} {cf:Array Value} {k9 k11:Nat} {va:Option Addr} {vn vc:Nat} {stop:Int} {vis:List (Int × List Int)} {a:Option Addr} {q c:Nat} {a':Option Addr} {m c':Nat} {F:FdI} {W W':World} (h:SnAt w cf k9 k11 va vn vc stop vis a q c a' m c' F W) (k:Below W.heap.size W W'):SnAt w cf k9 k11 va vn vc stop vis a q c a' m c' F W' :=
 ⟨h.l.after k,(k.block _ (heap_lt h.g)).trans h.g,(k.block _ (heap_lt h.t)).trans h.t,(k.block _ (heap_lt h.r)).trans h.r,h.v.below k,h.f.below k,h.b.trans (k.mono h.b.size)⟩
theorem run_ne {src:Sp.Bs} {ins:List Int} {fuel:Int} {er:Nat × Nat} (h:Sp.run src ins fuel=.error er):er.1 ≠ 0:=by
 unfold Sp.run at h
 split at h
 ·next e he=>cases h; exact Sp.parse_e _ _ _ he
 ·split at h
  ·cases h; decide
  ·cases h
def ErrW (w:World) (v:Value) (k:Nat):Prop:=(v=.nilIface∧k=0)∨∃ B er,ErrAt2 w B v er∧er.1=k
theorem ErrW.later {w w':World} {v:Value} {k:Nat} (h:ErrW w v k) (b:Below w.heap.size w w'):ErrW w' v k:=by
 rcases h with h | ⟨B,er,h,e⟩
 ·exact .inl h
 ·exact .inr ⟨0,er,h.later b,e⟩
theorem tell_any2 {w:World} {v:Value} {k:Nat} (h:ErrW w v k) (hL:Laid2 w):∃ a:Nat,Calls Tryz.prog 16 #[v] w fun e w'=>e=.returned (.tuple #[.int .i64 (k:Nat),.int .i64 (a:Nat)])∧Below w.heap.size w w':=by
 rcases h with ⟨rfl,rfl⟩ | ⟨B,er,h,rfl⟩
 ·exact ⟨0,Tell_nil w⟩
 ·exact ⟨er.2,Tell_err2 v er B w hL.et hL.laid.size h⟩
theorem ErrV.later {w w':World} {v:Value} {k:Nat} (h:ErrV w v k) (b:Below w.heap.size w w'):ErrV w' v k:=by
 rcases h with h | ⟨B,er,h | ⟨N,h1,h2,h3⟩,e⟩
 ·exact .inl h
 ·exact .inr ⟨B,er,.inl h,e⟩
 ·exact .inr ⟨B,er,.inr ⟨N,h1,h2,(b.block _ (heap_lt h3)).trans h3⟩,e⟩
theorem fc_at (e:Fin 8→Sp.Cg) (i:Nat) (hi:i<8):(fcC (some e)).toList[1 + i * 2]?=some (.int .i64 (((e ⟨i,hi⟩).m:Nat):Int))∧(fcC (some e)).toList[1 + i * 2 + 1]?=some (.int .i64 (e ⟨i,hi⟩).r):=by
 have h:i=0∨i=1∨i=2∨i=3∨i=4∨i=5∨i=6∨i=7:=by omega
 rcases h with rfl | rfl | rfl | rfl | rfl | rfl | rfl | rfl <;> exact ⟨rfl,rfl⟩
theorem vis_at (x:Int × List Int) (i:Nat) (hi:i<8):(visCell x)[1 + i]?=some (.int .i16 (x.2.getD i 0)):=by
 have h:i=0∨i=1∨i=2∨i=3∨i=4∨i=5∨i=6∨i=7:=by omega
 rcases h with rfl | rfl | rfl | rfl | rfl | rfl | rfl | rfl <;> rfl
end WC
end Go.Proofs.YtiopfihjmkfdmaaGreatDoor
namespace Go.Proofs.YtiopfihjmkfdmaaGreatDoor
namespace WC
open Go.RowKit
set_option maxRecDepth 100000
set_option maxHeartbeats 8000000
def WordPost (s W:ByteArray) (w:World) (e:Ending) (w':World):Prop:=(∃ r,e=.returned (.bool r)∧(r=false→¬ Sp.HasW W.data.toList s.data.toList))∧w'=w
theorem extract_list (s:ByteArray) (j n:Nat):(s.extract j (j + n)).toList=(s.data.toList.drop j).take n:=by
 rw [ByteArray.toList_eq]
 have e:(s.extract j (j + n)).data=s.data.extract j (j + n):=by simp
 rw [e,Array.toList_extract]
 simp [List.extract,List.take_drop]
theorem word_calls (s W:ByteArray) (hs:s.size≤1048576) (hW:0<W.size) (hW2:W.size≤1000) (w:World) :
  Calls Tryz.prog 33 #[.string s,.string W] w (WordPost s W w):=by
 have hs2:(s.size:Int)≤1048576:=by omega
 have hW3:(W.size:Int)≤1000:=by omega
 go_enter Tryz.func33,Tryz.ntmps33
 go_wp2_with fail
 go_loopw [5] (fun v5 wr=>∃ j:Nat,j≤s.size + 1∧v5=.int .i64 j∧wr=w∧Hid (∀ k,k<j→¬ ∃ b,s.data.toList=s.data.toList.take k ++ W.data.toList ++ b)) (fun v5 _=>s.size + 1 - (intOf v5).toNat)
 case atStart=>exact ⟨0,Nat.zero_le _,rfl,rfl,fun k hk=>by omega⟩
 case round =>
  obtain ⟨j,hj,rfl,rfl,hq⟩:=hrel
  by_cases hjl:j + W.size≤s.size
  ·have hji:((j:Nat):Int) + ((W.size:Nat):Int)≤((s.size:Nat):Int):=by omega
   cases hx:((s.extract j (j + W.size)).toList == W.toList) with
   | true =>
    go_wp2_with fail
    go_ret
    exact ⟨⟨true,rfl,fun h=>by cases h⟩,rfl⟩
   | false =>
    have HQ:Hid (∀ k,k<j + 1→¬ ∃ b,s.data.toList=s.data.toList.take k ++ W.data.toList ++ b):=by
     intro k hk
     by_cases hkj:k<j
     ·exact hq.out k hkj
     ·obtain rfl:k=j:=by omega
      rintro ⟨b,hb⟩
      have hl:(s.data.toList.take k).length=k:=by
       rw [List.length_take]
       have:s.data.toList.length=s.size:=rfl
       omega
      have e:(s.extract k (k + W.size)).toList=W.toList:=by
       rw [extract_list,hb,List.append_assoc,List.drop_append_of_le_length (by rw [hl]; exact Nat.le_refl _),List.drop_of_length_le (by rw [hl]; exact Nat.le_refl _),List.nil_append,List.take_append_of_le_length (by show W.size≤W.data.toList.length; exact Nat.le_refl _),List.take_of_length_le (by show W.data.toList.length≤W.size; exact Nat.le_refl _),ByteArray.toList_eq]
      rw [e] at hx
      simp at hx
    go_wp2_with fail
    exact ⟨⟨j + 1,by omega,by go_num,trivial,HQ⟩,by simp [intOf]; omega⟩
  ·have hji:¬ ((j:Nat):Int) + ((W.size:Nat):Int)≤((s.size:Nat):Int):=by omega
   have HN:Hid (¬ Sp.HasW W.data.toList s.data.toList):=by
    rintro ⟨a,b,hab⟩
    have h1:=congrArg List.length hab
    simp only [List.length_append] at h1
    have h2:s.data.toList.length=s.size:=rfl
    have h3:W.data.toList.length=W.size:=rfl
    refine hq.out a.length (by omega) ⟨b,?_⟩
    have:s.data.toList.take a.length=a:=by rw [hab,List.append_assoc,List.take_append_of_le_length (Nat.le_refl _),List.take_of_length_le (Nat.le_refl _)]
    rw [this]
    exact hab
   go_wp2_with fail
   go_ret
   exact ⟨⟨false,rfl,fun _=>HN.out⟩,rfl⟩
theorem Run_none (s:ByteArray) (w:World) (hs:s.size≤1048576) (hL:Laid w) (Q:List (Int × List Int) × Int→Prop) (k:Nat) (hk:match Sp.run s.data.toList [] 500 with | .error er=>k=er.1 | .ok t=>k=0∧Q t) :
  Calls Tryz.prog 23 #[.string s,.slice none 0 0,.int .i64 500] w fun e w'=>∃ va vn vc stop ev vis,e=.returned (.tuple #[.agg #[.slice va vn vc,.int .i64 stop],ev])∧VisAt w' (.slice va vn vc) vis∧vis.length≤500∧ErrW w' ev k∧(k=0→Q (vis,stop))∧Below w.heap.size w w':=by
 refine (Run_calls s (.slice none 0 0) [] 500 w hs hL (.inl ⟨none,0,rfl,rfl⟩) ⟨_,_,_,rfl⟩).mono ?_
 intro e w' h
 cases hr:Sp.run s.data.toList [] 500 with
 | error er =>
  rw [hr] at h hk
  obtain ⟨v,rfl,hv,b⟩:=h
  exact ⟨none,0,0,0,v,[],rfl,⟨none,0,rfl,Nat.le_refl _,fun h=>absurd rfl h⟩,Nat.zero_le _,.inr ⟨_,er,hv,Eq.symm hk⟩,fun h0=>absurd (hk.symm.trans h0) (run_ne hr),b⟩
 | ok t =>
  rw [hr] at h hk
  obtain ⟨v,rfl,⟨vv,rfl,ho,hlen⟩,b⟩:=h
  have hva:=visAt_of ho
  obtain ⟨a,n,c,rfl⟩:∃ a n c,vv=.slice a n c:=by obtain ⟨a,c,h,_⟩:=hva; exact ⟨_,_,_,h⟩
  exact ⟨a,n,c,t.2,.nilIface,t.1,rfl,hva,hlen,.inl ⟨rfl,hk.1⟩,fun _=>hk.2,b⟩
end WC
end Go.Proofs.YtiopfihjmkfdmaaGreatDoor
namespace Go.Proofs.YtiopfihjmkfdmaaGreatDoor
namespace WC
open Go.RowKit
set_option maxRecDepth 100000
set_option maxHeartbeats 8000000
structure CnAt (w:World) (k6 k8:Nat) (va:Option Addr) (vn vc:Nat) (stop:Int) (vis:List (Int × List Int)) (a:Option Addr) (q c:Nat) (a':Option Addr) (m c':Nat) (F:FdI) (W:World):Prop where
 l:Laid2 W
 t:W.heap[k6]?=some (.cells #[.slice va vn vc,.int .i64 stop] 41)
 r:W.heap[k8]?=some (.cells #[.slice a q c,.slice a' m c'] 64)
 v:VisAt W (.slice va vn vc) vis
 f:RepV W a q a' m F
 b:Below w.heap.size w W
theorem CnAt.call {w:World} {k6 k8:Nat} {va:Option Addr} {vn vc:Nat} {stop:Int} {vis:List (Int × List Int)} {a:Option Addr} {q c:Nat} {a':Option Addr} {m c':Nat} {F:FdI} {W W':World} (h:CnAt w k6 k8 va vn vc stop vis a q c a' m c' F W) (k:Below W.heap.size W W'):CnAt w k6 k8 va vn vc stop vis a q c a' m c' F W' :=
 ⟨h.l.after k,(k.block _ (heap_lt h.t)).trans h.t,(k.block _ (heap_lt h.r)).trans h.r,h.v.below k,h.f.below k,h.b.trans (k.mono h.b.size)⟩
theorem below_drewN (w:World) (n:Nat):Below w.heap.size w (w.drewN n):=⟨rfl,rfl,rfl,Nat.le_refl _,fun _ _=>rfl⟩
theorem Constant_calls (s:ByteArray) (w:World) (hL:Laid2 w) (hT:Turns w) :
  Calls Tryz.prog 14 #[.string s] w fun e w'=>e=.returned (.bool true)∧Below w.heap.size w w':=by
 have hr:=knows_calls w hL hT
 by_cases hs:1048576<s.size
 ·go_enter Tryz.func14,Tryz.ntmps14
  go_wp2_with fail
  refine hr.mono ?_
  rintro e w1 ⟨rfl,b1⟩
  go_wp2_with fail
  go_ret
  exact ⟨rfl,b1⟩
 have hs':s.size≤1048576:=by omega
 have hs2:¬ (1048576:Int)<(s.size:Int):=by omega
 have HL:Hid (Laid2 w):=hL
 have HT:Hid (Turns w):=hT
 clear hL hT
 go_enter Tryz.func14,Tryz.ntmps14
 go_wp2_with fail
 refine hr.mono ?_
 rintro e w1 ⟨rfl,b1⟩
 have HL1:Hid (Laid2 w1):=HL.out.after b1
 have HT1:Hid (Turns w1):=turns_after HT.out HL.out b1
 have HB1:Hid (Below w.heap.size w w1):=b1
 clear hr b1 HL HT
 have HWA:=word_calls s ⟨#[119,104,105,108,101]⟩ hs' (by decide) (by decide) w1
 have HWB:=word_calls s ⟨#[114,101,97,100]⟩ hs' (by decide) (by decide) w1
 go_wp2_with fail
 refine HWA.mono ?_
 rintro e w2 ⟨⟨r1,rfl,hr1⟩,rfl⟩
 have HR1:Hid (r1=false→¬ Sp.HasW Sp.wWhile s.data.toList):=hr1
 clear HWA hr1
 go_wp2_with fail
 refine HWB.mono ?_
 rintro e w3 ⟨⟨r2,rfl,hr2⟩,rfl⟩
 have HR2:Hid (r2=false→¬ Sp.HasW Sp.wRead s.data.toList):=hr2
 clear HWB hr2
 have hcs:=ans_const s.data.toList
 obtain ⟨F,k,hFk⟩:∃ F k,ansF ⟨0,0,0⟩ s.data.toList=(F,k):=⟨_,_,rfl⟩
 have hsm:=ansF_small ⟨0,0,0⟩ s.data.toList
 rw [hFk] at hcs hsm
 have HFK:Hid (ansF ⟨0,0,0⟩ s.data.toList=(F,k)):=hFk
 have HRN:Hid (Calls _ _ _ _ _):=Run_none s _ hs' HL1.out.laid (fun t=>¬ Sp.HasW Sp.wWhile s.data.toList→¬ Sp.HasW Sp.wRead s.data.toList→CstOf F t) k hcs
 clear hcs hFk
 go_wp2_with fail
 refine HRN.out.mono ?_
 rintro e w2 ⟨va,vn,vc,stop,ev,vis,rfl,hvis,hlen,hev,hsn,b2⟩
 have bx:Below w3.heap.size w3 (w2.alloc (.cells #[.slice va vn vc,.int .i64 stop] 41)):=b2.alloc b2.size _
 have HL3:Hid (Laid2 _):=HL1.out.after bx
 have HT3:Hid (Turns _):=turns_after HT1.out HL1.out bx
 have HA:Hid (Calls _ _ _ _ _):=Analyze_out s 0 0 0 false _ hs' HL3.out HT3.out (by omega) (by omega) (by omega)
 have HN3:Hid (_=_):=heap_alloc_new w2 (.cells #[.slice va vn vc,.int .i64 stop] 41)
 have HV3:Hid (VisAt _ _ _):=hvis.below (below_alloc1 w2 (.cells #[.slice va vn vc,.int .i64 stop] 41))
 have HE3:Hid (ErrW _ _ _):=hev.later (below_alloc1 w2 (.cells #[.slice va vn vc,.int .i64 stop] 41))
 have HB3:Hid (Below w.heap.size w _):=HB1.out.trans (bx.mono HB1.out.size)
 have HSN:Hid (k=0→_):=hsn
 clear HRN hvis hev hsn b2 bx HL1 HT1 HB1
 go_wp2_with fail
 generalize w2.alloc (.cells #[.slice va vn vc,.int .i64 stop] 41)=w4 at *
 generalize w2.heap.size=k6 at *
 refine HA.out.mono ?_
 rw [HFK.out]
 rintro e w5 ⟨a,q,c,a',m,c',fv,rfl,hf,hfv,b4⟩
 have bx:Below w4.heap.size w4 (w5.alloc (.cells #[.slice a q c,.slice a' m c'] 64)):=b4.alloc b4.size _
 have HS:Hid (CnAt w k6 w5.heap.size va vn vc stop vis a q c a' m c' F (w5.alloc (.cells #[.slice a q c,.slice a' m c'] 64))) :=
  ⟨HL3.out.after bx,(bx.block _ (heap_lt HN3.out)).trans HN3.out,heap_alloc_new _ _,HV3.out.below bx,hf.below (below_alloc1 w5 (.cells #[.slice a q c,.slice a' m c'] 64)),HB3.out.trans (bx.mono HB3.out.size)⟩
 obtain ⟨t1,hT1⟩:=tell_any2 (HE3.out.later bx) HS.out.l
 have HF1:Hid (ErrV _ _ _):=hfv.laid (.cells #[.slice a q c,.slice a' m c'] 64)
 have HTL:Hid (Calls _ _ _ _ _):=hT1
 clear HA HL3 HT3 HN3 HV3 HE3 HB3 hf hfv b4 bx hT1
 go_wp2_with fail
 generalize w5.alloc (.cells #[.slice a q c,.slice a' m c'] 64)=w6 at *
 generalize w5.heap.size=k8 at *
 refine HTL.out.mono ?_
 rintro e w7 ⟨rfl,b6⟩
 have HS6:Hid (CnAt w k6 k8 va vn vc stop vis a q c a' m c' F w7):=HS.out.call b6
 obtain ⟨t2,hT2⟩:∃ t2:Nat,Calls Tryz.prog 16 #[fv] w7 fun e w'=>e=.returned (.tuple #[.int .i64 (k:Nat),.int .i64 (t2:Nat)])∧Below w7.heap.size w7 w':=tell_any (HF1.out.later b6) HS6.out.l
 have HTM:Hid (Calls _ _ _ _ _):=hT2
 clear HTL HF1 HS b6 hT2
 go_wp2_with fail
 refine HTM.out.mono ?_
 rintro e w8 ⟨rfl,b7⟩
 have HS7:Hid (CnAt w k6 k8 va vn vc stop vis a q c a' m c' F w8):=HS6.out.call b7
 clear HTM HS6 b7
 by_cases hk:k=0
 ·subst hk
  cases r1 with
  | true =>
   go_wp2_with (go_at_call 18; refine (num_calls _ _).mono ?_; rintro e wN ⟨rfl,rfl⟩)
   go_ret
   exact ⟨rfl,HS7.out.b⟩
  | false =>
   cases r2 with
   | true =>
    go_wp2_with (go_at_call 18; refine (num_calls _ _).mono ?_; rintro e wN ⟨rfl,rfl⟩)
    go_ret
    exact ⟨rfl,HS7.out.b⟩
   | false =>
    have HC:Hid (CstOf F (vis,stop)):=HSN.out rfl (HR1.out rfl) (HR2.out rfl)
    clear HSN HR1 HR2 HFK
    go_wp2_with (go_at_call 18; refine (num_calls _ _).mono ?_; rintro e wN ⟨rfl,rfl⟩)
    obtain rfl:vn=vis.length:=by obtain ⟨_,_,e,_⟩:=HS7.out.v; cases e; rfl
    have hl2:(vis.length:Int)≤500:=by omega
    have HQF:Hid (q=F.1.length):=HS7.out.f.n
    have HMF:Hid (m=F.2.length):=HS7.out.f.m
    have hq2:(q:Int)≤1000:=by have h:=hsm.1; rw [← HQF.out] at h; omega
    have hm2:(m:Int)≤1000:=by have h:=hsm.2; rw [← HMF.out] at h; omega
    clear hsm
    go_loopw [14] (fun v14 wr=>∃ p:Nat,p≤q∧v14=.int .i64 p∧Hid (CnAt w k6 k8 va vis.length vc stop vis a q c a' m c' F wr)) (fun v14 _=>q - (intOf v14).toNat)
    case atStart=>exact ⟨0,Nat.zero_le _,rfl,HS7.out⟩
    case round =>
     obtain ⟨p,hp,rfl,hq⟩:=hrel
     clear HS7
     have r0:=cell_of hq.out.r 0 (v:=.slice a q c) rfl
     by_cases hpl:p<q
     ·have hpi:((p:Nat):Int)<((q:Nat):Int):=by omega
      obtain ⟨sx,hsx⟩:∃ sx,F.1[p]?=some sx:=⟨_,List.getElem?_eq_getElem (by rw [← HQF.out]; exact hpl)⟩
      obtain ⟨gF,rfl,_⟩:=hq.out.f.f p sx hsx
      have HVC:Hid (Calls _ _ _ _ _):=visited_calls va vc stop vis p wr hq.out.v hlen HC.out.i
      have t0:=cell_of hq.out.t 0 (v:=.slice va vis.length vc) rfl
      have t1:=cell_of hq.out.t 1 (v:=.int .i64 stop) rfl
      go_wp2_with fail
      refine HVC.out.mono ?_
      rintro e w9 ⟨z,bb,rfl,b9,hz⟩
      have h9:=hq.out.call b9
      have H9:Hid (CnAt w k6 k8 va vis.length vc stop vis (some ⟨gF,0,none⟩) q c a' m c' F w9):=h9
      obtain ⟨f1,f2⟩:=HC.out.f p sx hsx
      clear r0 t0 t1 HVC hq b9
      have r0:=cell_of h9.r 0 (v:=.slice (some ⟨gF,0,none⟩) q c) rfl
      rcases hz with ⟨rfl,hno⟩ | ⟨j,st,rfl,hj⟩
      ·obtain rfl:=f2 hno
       have f0:w9.cell? ⟨gF,p * 17,none⟩=some (.bool false):=by
        obtain ⟨g',h,r⟩:=h9.f.f p none hsx
        cases h
        exact r 0 (.bool false) rfl
       clear h9 f1 f2 hno hsx
       go_wp2_with fail
       go_loopw [17] (fun v17 ws=>v17=.int .i64 0∧Hid (CnAt w k6 k8 va vis.length vc stop vis (some ⟨gF,0,none⟩) q c a' m c' F ws)) (fun _ _=>0)
       case atStart=>exact ⟨rfl,H9⟩
       case round =>
        obtain ⟨rfl,hq'⟩:=hrel
        go_wp2_with fail
        exact ⟨⟨p + 1,by omega,by go_num,hq'⟩,by simp [intOf]; omega⟩
      ·have hmem:=List.mem_of_getElem? hj
       obtain rfl:=f1 st hmem
       have hz8:=HC.out.z _ hmem
       have f0:w9.cell? ⟨gF,p * 17,none⟩=some (.bool true):=by
        obtain ⟨g',h,r⟩:=h9.f.f p _ hsx
        cases h
        exact r 0 (.bool true) rfl
       have hjl:=(List.getElem?_eq_some_iff.1 hj).1
       have hji:((j:Nat):Int)<((vis.length:Nat):Int):=by omega
       obtain ⟨g,rfl⟩:∃ g,va=some ⟨g,0,none⟩:=by
        obtain ⟨_,_,e1,_,h3⟩:=h9.v
        cases e1
        obtain ⟨g,h,_⟩:=h3 (fun h=>by rw [h] at hjl; cases hjl)
        exact ⟨g,h⟩
       have HVS:Hid (∀ W,CnAt w k6 k8 (some ⟨g,0,none⟩) vis.length vc stop vis (some ⟨gF,0,none⟩) q c a' m c' F W→∀ i u,(visCell ((p:Int),st))[i]?=some u→W.cell? ⟨g,j * 9 + i,none⟩=some u):=fun W hW i u hu=>by
        obtain ⟨_,_,e1,_,h3⟩:=hW.v
        cases e1
        obtain ⟨g',h,h5⟩:=h3 (fun h=>by rw [h] at hjl; cases hjl)
        cases h
        exact h5 _ _ (visCells_get vis j _ hj i u hu)
       have HFS:Hid (∀ W,CnAt w k6 k8 (some ⟨g,0,none⟩) vis.length vc stop vis (some ⟨gF,0,none⟩) q c a' m c' F W→W.rangeAt gF (p * 17) (fcC (some (Sp.conE st))).toList):=fun W hW=>by
        obtain ⟨g',h,r⟩:=hW.f.f p _ hsx
        cases h
        exact r
       have HZ8:Hid (∀ k:Fin 8,Sp.I16 (st.getD k.val 0)):=hz8
       clear h9 f1 f2 hmem hsx hz8 hj
       go_wp2_with fail
       go_loopw [17] (fun v17 ws=>∃ i:Nat,i≤8∧v17=.int .i64 i∧Hid (CnAt w k6 k8 (some ⟨g,0,none⟩) vis.length vc stop vis (some ⟨gF,0,none⟩) q c a' m c' F ws)) (fun v17 _=>8 - (intOf v17).toNat)
       case atStart=>exact ⟨0,by omega,rfl,H9.out⟩
       case round =>
        obtain ⟨i,hi,rfl,hq'⟩:=hrel
        by_cases h8:i<8
        ·have hi8:((i:Nat):Int)<8:=by omega
         have hfc:=fc_at (Sp.conE st) i h8
         have hvc:=vis_at ((p:Int),st) i h8
         have hzi:=HZ8.out ⟨i,h8⟩
         obtain ⟨z,hzz⟩:∃ z,z=st.getD i 0:=⟨_,rfl⟩
         have hfc:(fcC (some (Sp.conE st))).toList[1 + i * 2]?=some (.int .i64 0)∧(fcC (some (Sp.conE st))).toList[1 + i * 2 + 1]?=some (.int .i64 z):=by rw [hzz]; exact hfc
         have hvc:(visCell ((p:Int),st))[1 + i]?=some (.int .i16 z):=by rw [hzz]; exact hvc
         have hzi:Sp.I16 z:=by rw [hzz]; exact hzi
         have hwz:IntKind.i64.wrap z=z:=by rw [IntKind.wrap_i64]; obtain ⟨z1,z2⟩:=hzi; omega
         have d1:wr.cell? ⟨gF,p * 17 + 1 + i * 2,none⟩=some (.int .i64 0):=by rw [Nat.add_assoc (p * 17)]; exact HFS.out wr hq'.out _ _ hfc.1
         have d2:wr.cell? ⟨gF,p * 17 + 1 + i * 2 + 1,none⟩=some (.int .i64 z):=by rw [show p * 17 + 1 + i * 2 + 1=p * 17 + (1 + i * 2 + 1) by omega]; exact HFS.out wr hq'.out _ _ hfc.2
         have r0':=cell_of hq'.out.r 0 (v:=.slice (some ⟨gF,0,none⟩) q c) rfl
         have bv:=below_alloc1 wr (.cells #[.int .i64 0,.int .i64 z] 73)
         have h10:=hq'.out.call bv
         have hn:=heap_alloc_new wr (.cells #[.int .i64 0,.int .i64 z] 73)
         have n0:=cell_of hn 0 (v:=.int .i64 0) rfl
         have n1:=cell_of hn 1 (v:=.int .i64 z) rfl
         have x1:=HVS.out _ h10 (1 + i) _ hvc
         rw [← Nat.add_assoc (j * 9)] at x1
         have x2:=cell_of h10.t 0 (v:=.slice (some ⟨g,0,none⟩) vis.length vc) rfl
         have H10:Hid (CnAt w k6 k8 (some ⟨g,0,none⟩) vis.length vc stop vis (some ⟨gF,0,none⟩) q c a' m c' F _):=h10
         clear hfc hvc hzz hzi bv h10 hn
         go_wp2_with fail
         generalize wr.alloc (.cells #[.int .i64 0,.int .i64 z] 73)=wv at *
         generalize wr.heap.size=k18 at *
         clear d1 d2 r0'
         go_quiet (fail)
         have HX:∀ n,Hid (CnAt w k6 k8 (some ⟨g,0,none⟩) vis.length vc stop vis (some ⟨gF,0,none⟩) q c a' m c' F (wv.drewN n)):=fun n=>H10.out.call (below_drewN wv n)
         go_wp2_with fail
         exact ⟨⟨i + 1,by omega,by go_num,HX _⟩,by simp [intOf]; omega⟩
        ·obtain rfl:i=8:=by omega
         go_wp2_with fail
         exact ⟨⟨p + 1,by omega,by go_num,hq'⟩,by simp [intOf]; omega⟩
     ·obtain rfl:p=q:=by omega
      go_wp2_with fail
      go_loopw [19] (fun v19 ws=>∃ i:Nat,i≤m∧v19=.int .i64 i∧Hid (CnAt w k6 k8 va vis.length vc stop vis a p c a' m c' F ws)) (fun v19 _=>m - (intOf v19).toNat)
      case atStart=>exact ⟨0,Nat.zero_le _,rfl,hq⟩
      case round =>
       obtain ⟨i,hi,rfl,hq'⟩:=hrel
       clear hq r0
       have r1:=cell_of hq'.out.r 1 (v:=.slice a' m c') rfl
       have t1:=cell_of hq'.out.t 1 (v:=.int .i64 stop) rfl
       by_cases hil:i<m
       ·have hii:((i:Nat):Int)<((m:Nat):Int):=by omega
        obtain ⟨kk,hkk⟩:∃ kk,F.2[i]?=some kk:=⟨_,List.getElem?_eq_getElem (by rw [← HMF.out]; exact hil)⟩
        obtain ⟨gS,rfl,s1⟩:=hq'.out.f.s i kk hkk
        have hcs:=HC.out.s i kk hkk
        have HX:∀ n,Hid (CnAt w k6 k8 va vis.length vc stop vis a p c (some ⟨gS,0,none⟩) m c' F (wr.drewN n)):=fun n=>hq'.out.call (below_drewN wr n)
        by_cases h2:kk=2
        ·have hst:=hcs.1 h2
         have hst:stop=(i:Int):=hst
         subst h2
         subst hst
         clear hcs hkk
         go_wp2_with fail
         go_quiet (fail)
         go_wp2_with fail
         exact ⟨⟨i + 1,by omega,by go_num,HX _⟩,by simp [intOf]; omega⟩
        ·have hst:¬ stop=(i:Int):=fun h=>h2 (hcs.2 h)
         have h2':¬ ((kk:Nat):Int)=2:=by omega
         have h2b:(((kk:Nat):Int) == 2)=false:=by simpa using h2'
         have hsb:(stop == ((i:Nat):Int))=false:=by simpa using hst
         clear hcs hkk
         go_wp2_with fail
         go_quiet (fail)
         go_wp2_with fail
         exact ⟨⟨i + 1,by omega,by go_num,HX _⟩,by simp [intOf]; omega⟩
       ·obtain rfl:i=m:=by omega
        go_wp2_with fail
        go_ret
        exact ⟨rfl,hq'.out.b⟩
 ·have hk':¬ ((k:Nat):Int)=0:=by omega
  go_wp2_with (go_at_call 18; refine (num_calls _ _).mono ?_; rintro e wN ⟨rfl,rfl⟩)
  go_ret
  exact ⟨rfl,HS7.out.b⟩
end WC
end Go.Proofs.YtiopfihjmkfdmaaGreatDoor
