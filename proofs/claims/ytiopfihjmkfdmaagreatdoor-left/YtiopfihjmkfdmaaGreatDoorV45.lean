import Derived.Test.YtiopfihjmkfdmaaGreatDoorV44
namespace Go.Proofs.YtiopfihjmkfdmaaGreatDoor
namespace WC
open Go.RowKit
set_option maxRecDepth 100000
set_option maxHeartbeats 8000000
theorem has_calls (x:Sp.Cg) (n:Int) (w:World) (hw:Sp.cgWf x) (hm:Sp.cgMem x n) (hn:Sp.I16 n):Calls Tryz.prog 48 #[.int .i64 1,.agg #[.int .i64 ((x.m:Nat):Int),.int .i64 x.r],.int .i64 n] w fun e w'=>e=.returned (.bool true)∧Below w.heap.size w w':=by
 obtain ⟨hx1,hx2⟩:=wf_small hw
 obtain ⟨n1,n2⟩:=hn
 unfold Sp.cgMem at hm
 by_cases h0:x.m=0
 ·rw [if_pos h0] at hm
  rw [h0,hm]
  generalize x.r=b at *
  have hb:=below_alloc1 w (.cells #[.int .i64 0,.int .i64 b] 73)
  clear hm h0 hw
  go_enter Tryz.func48,Tryz.ntmps48
  go_wp2_with fail
  go_ret
  exact ⟨by simp,hb⟩
 ·rw [if_neg h0] at hm
  have hz:(n - x.r).tmod ((x.m:Nat):Int)=0:=Int.tmod_eq_zero_of_dvd (Int.dvd_of_emod_eq_zero hm)
  have h1:¬ ((x.m:Nat):Int)=0:=by omega
  have h2:0<((x.m:Nat):Int):=by omega
  have h3:IntKind.i64.wrap (n - x.r)=n - x.r:=by rw [IntWalk.i64_in] <;> omega
  clear hw hm h0 hx1 hx2 n1 n2
  generalize x.r=b at *
  generalize ((x.m:Nat):Int)=a at *
  have hb:=below_alloc1 w (.cells #[.int .i64 a,.int .i64 b] 73)
  go_enter Tryz.func48,Tryz.ntmps48
  go_wp2_with fail
  go_ret
  exact ⟨by simp,hb⟩
structure SnAt (w:World) (cf:Array Value) (k9 k11:Nat) (va:Option Addr) (vn vc:Nat) (stop:Int) (vis:List (Int × List Int)) (a:Option Addr) (q c:Nat) (a':Option Addr) (m c':Nat) (F:FdI) (W:World):Prop where
 l:Laid2 W
 g:W.heap[w.heap.size]?=some (.cells cf 58)
 t:W.heap[k9]?=some (.cells #[.slice va vn vc,.int .i64 stop] 41)
 r:W.heap[k11]?=some (.cells #[.slice a q c,.slice a' m c'] 64)
 v:VisAt W (.slice va vn vc) vis
 f:RepV W a q a' m F
 b:Below w.heap.size w W
theorem SnAt.call {w:World} {cf:Array Value} {k9 k11:Nat} {va:Option Addr} {vn vc:Nat} {stop:Int} {vis:List (Int × List Int)} {a:Option Addr} {q c:Nat} {a':Option Addr} {m c':Nat} {F:FdI} {W W':World} (h:SnAt w cf k9 k11 va vn vc stop vis a q c a' m c' F W) (k:Below W.heap.size W W'):SnAt w cf k9 k11 va vn vc stop vis a q c a' m c' F W' :=
 ⟨h.l.after k,(k.block _ (heap_lt h.g)).trans h.g,(k.block _ (heap_lt h.t)).trans h.t,(k.block _ (heap_lt h.r)).trans h.r,h.v.below k,h.f.below k,h.b.trans (k.mono h.b.size)⟩
theorem run_ne {src:Sp.Bs} {ins:List Int} {fuel:Int} {er:Nat × Nat} (h:Sp.run src ins fuel=.error er):er.1 ≠ 0:=by
 unfold Sp.run at h
 split at h
 ·next e he=>cases h; exact Sp.parse_e _ _ _ he
 ·split at h
  ·cases h; decide
  ·cases h
theorem ins16_in (l:List Int):∀ n ∈ ins16 l,Sp.I16 n:=by
 intro n hn
 unfold ins16 at hn
 obtain ⟨x,_,rfl⟩:=List.mem_map.1 hn
 exact Sp.w16_in x
def ErrW (w:World) (v:Value) (k:Nat):Prop:=(v=.nilIface∧k=0)∨∃ B er,ErrAt2 w B v er∧er.1=k
theorem ErrW.later {w w':World} {v:Value} {k:Nat} (h:ErrW w v k) (b:Below w.heap.size w w'):ErrW w' v k:=by
 rcases h with h | ⟨B,er,h,e⟩
 ·exact .inl h
 ·exact .inr ⟨0,er,h.later b,e⟩
theorem tell_any2 {w:World} {v:Value} {k:Nat} (h:ErrW w v k) (hL:Laid2 w):∃ a:Nat,Calls Tryz.prog 16 #[v] w fun e w'=>e=.returned (.tuple #[.int .i64 (k:Nat),.int .i64 (a:Nat)])∧Below w.heap.size w w':=by
 rcases h with ⟨rfl,rfl⟩ | ⟨B,er,h,rfl⟩
 ·exact ⟨0,Tell_nil w⟩
 ·exact ⟨er.2,Tell_err2 v er B w hL.et hL.laid.size h⟩
theorem ErrV.later {w w':World} {v:Value} {k:Nat} (h:ErrV w v k) (b:Below w.heap.size w w'):ErrV w' v k:=by
 rcases h with h | ⟨B,er,h | ⟨N,h1,h2,h3⟩,e⟩
 ·exact .inl h
 ·exact .inr ⟨B,er,.inl h,e⟩
 ·exact .inr ⟨B,er,.inr ⟨N,h1,h2,(b.block _ (heap_lt h3)).trans h3⟩,e⟩
theorem Run_out (s:ByteArray) (iv:Value) (ins:List Int) (w:World) (hs:s.size≤1048576) (hL:Laid w) (hin:InAt w.heap.size w iv ins) (hiv:∃ a n c,iv=.slice a n c) (F:FdI) (k:Nat) (hk:match Sp.run s.data.toList ins 300 with | .error er=>k=er.1 | .ok t=>k=0∧SndOf F t) :
  Calls Tryz.prog 23 #[.string s,iv,.int .i64 300] w fun e w'=>∃ va vn vc stop ev vis,e=.returned (.tuple #[.agg #[.slice va vn vc,.int .i64 stop],ev])∧VisAt w' (.slice va vn vc) vis∧vis.length≤500∧ErrW w' ev k∧(k=0→SndOf F (vis,stop))∧Below w.heap.size w w':=by
 refine (Run_calls s iv ins 300 w hs hL hin hiv).mono ?_
 intro e w' h
 cases hr:Sp.run s.data.toList ins 300 with
 | error er =>
  rw [hr] at h hk
  obtain ⟨v,rfl,hv,b⟩:=h
  exact ⟨none,0,0,0,v,[],rfl,⟨none,0,rfl,Nat.le_refl _,fun h=>absurd rfl h⟩,Nat.zero_le _,.inr ⟨_,er,hv,Eq.symm hk⟩,fun h0=>absurd (hk.symm.trans h0) (run_ne hr),b⟩
 | ok t =>
  rw [hr] at h hk
  obtain ⟨v,rfl,⟨vv,rfl,ho,hlen⟩,b⟩:=h
  have hva:=visAt_of ho
  obtain ⟨a,n,c,rfl⟩:∃ a n c,vv=.slice a n c:=by obtain ⟨a,c,h,_⟩:=hva; exact ⟨_,_,_,h⟩
  exact ⟨a,n,c,t.2,.nilIface,t.1,rfl,hva,hlen,.inl ⟨rfl,hk.1⟩,fun _=>hk.2,b⟩
theorem fc_at (e:Fin 8→Sp.Cg) (i:Nat) (hi:i<8):(fcC (some e)).toList[1 + i * 2]?=some (.int .i64 (((e ⟨i,hi⟩).m:Nat):Int))∧(fcC (some e)).toList[1 + i * 2 + 1]?=some (.int .i64 (e ⟨i,hi⟩).r):=by
 have h:i=0∨i=1∨i=2∨i=3∨i=4∨i=5∨i=6∨i=7:=by omega
 rcases h with rfl | rfl | rfl | rfl | rfl | rfl | rfl | rfl <;> exact ⟨rfl,rfl⟩
theorem vis_at (x:Int × List Int) (i:Nat) (hi:i<8):(visCell x)[1 + i]?=some (.int .i16 (x.2.getD i 0)):=by
 have h:i=0∨i=1∨i=2∨i=3∨i=4∨i=5∨i=6∨i=7:=by omega
 rcases h with rfl | rfl | rfl | rfl | rfl | rfl | rfl | rfl <;> rfl
theorem sound_calls (s:ByteArray) (lv:Value) (l:List Int) (d n u:Nat) (th:Bool) (w:World) (hs:s.size≤1048576) (hl:l.length≤1048576) (hL:Laid2 w) (hT:Turns w) (hin:IntsAt w lv l) (hd:d≤4) (hn:n≤3) (hu:u≤3) :
  Calls Tryz.prog 31 #[.string s,lv,.agg #[.int .i64 1,.int .i64 (d:Nat),.int .i64 (n:Nat),.int .i64 (u:Nat),.bool th]] w fun e w'=>e=.returned (.bool true)∧Below w.heap.size w w':=by
 have hlv:=hin
 obtain ⟨ad,cap,rfl,hcap,_⟩:=hin
 have b0:=below_alloc1 w (.cells #[.int .i64 1,.int .i64 (d:Nat),.int .i64 (n:Nat),.int .i64 (u:Nat),.bool th] 58)
 have hg0:=heap_alloc_new w (.cells #[.int .i64 1,.int .i64 (d:Nat),.int .i64 (n:Nat),.int .i64 (u:Nat),.bool th] 58)
 have hi:=inputs_calls (.slice ad l.length cap) l _ (hlv.after b0) hl
 have HI:Hid (Calls _ _ _ _ _):=hi
 have HG0:Hid (_=_):=hg0
 have HL0:Hid (Laid2 _):=hL.after b0
 have HT0:Hid (Turns _):=turns_after hT hL b0
 have HB0:Hid (Below w.heap.size w _):=b0
 clear hi hg0 b0 hlv hcap
 go_enter Tryz.func31,Tryz.ntmps31
 go_wp2_with fail
 generalize w.alloc (.cells #[.int .i64 1,.int .i64 (d:Nat),.int .i64 (n:Nat),.int .i64 (u:Nat),.bool th] 58)=w0 at *
 refine HI.out.mono ?_
 rintro e w1 ⟨x,y,rfl,hx,⟨_,hy⟩,b1⟩
 rw [c16_eq] at hx
 obtain ⟨hia,aa,an,ac,rfl⟩:=in_of_row hx (by simp [ins16])
 have hL1:=HL0.out.after b1
 have hT1:=turns_after HT0.out HL0.out b1
 have hsd:=ans_sound ⟨d,n,u⟩ s.data.toList (ins16 l) (ins16_in l)
 obtain ⟨F,k,hFk⟩:∃ F k,ansF ⟨d,n,u⟩ s.data.toList=(F,k):=⟨_,_,rfl⟩
 have hsm:=ansF_small ⟨d,n,u⟩ s.data.toList
 rw [hFk] at hsd hsm
 have hrun:=Run_out s (.slice aa an ac) (ins16 l) w1 hs hL1.laid hia ⟨_,_,_,rfl⟩ F k hsd
 have HRN:Hid (Calls _ _ _ _ _):=hrun
 have HFK:Hid (ansF ⟨d,n,u⟩ s.data.toList=(F,k)):=hFk
 have HB1:Hid (Below w.heap.size w w1):=HB0.out.trans (b1.mono HB0.out.size)
 have HG1:Hid (w1.heap[w.heap.size]?=_):=(b1.block _ (heap_lt HG0.out)).trans HG0.out
 have HL1:Hid (Laid2 w1):=hL1
 have HT1:Hid (Turns w1):=hT1
 clear HI hx hia hL1 hT1 hFk b1 HB0 HG0 HL0 HT0 hL hT hsd hrun
 obtain ⟨ya,yn,yc,rfl⟩:∃ a n c,y=.slice a n c:=by
  rcases hy with ⟨rfl,_⟩ | ⟨g,cap,cur,rfl,_⟩
  ·exact ⟨_,_,_,rfl⟩
  ·exact ⟨_,_,_,rfl⟩
 clear hy
 go_wp2_with fail
 refine HRN.out.mono ?_
 rintro e w2 ⟨va,vn,vc,stop,ev,vis,rfl,hvis,hlen,hev,hsn,b2⟩
 have bx:Below w1.heap.size w1 (w2.alloc (.cells #[.slice va vn vc,.int .i64 stop] 41)):=b2.alloc b2.size _
 have HL3:Hid (Laid2 _):=HL1.out.after bx
 have HT3:Hid (Turns _):=turns_after HT1.out HL1.out bx
 have HA:Hid (Calls _ _ _ _ _):=Analyze_out s d n u th _ hs HL3.out HT3.out hd hn hu
 have HG3:Hid (_=_):=(bx.block _ (heap_lt HG1.out)).trans HG1.out
 have HN3:Hid (_=_):=heap_alloc_new w2 (.cells #[.slice va vn vc,.int .i64 stop] 41)
 have HV3:Hid (VisAt _ _ _):=hvis.below (below_alloc1 w2 (.cells #[.slice va vn vc,.int .i64 stop] 41))
 have HE3:Hid (ErrW _ _ _):=hev.later (below_alloc1 w2 (.cells #[.slice va vn vc,.int .i64 stop] 41))
 have HB3:Hid (Below w.heap.size w _):=HB1.out.trans (bx.mono HB1.out.size)
 have HSN:Hid (k=0→SndOf F (vis,stop)):=hsn
 clear HRN hvis hev hsn b2 bx HL1 HT1 HG1 HB1
 have g0:=cell_of HG3.out 0 (v:=.int .i64 1) rfl
 have g1:=cell_of HG3.out 1 (v:=.int .i64 (d:Nat)) rfl
 have g2:=cell_of HG3.out 2 (v:=.int .i64 (n:Nat)) rfl
 have g3:=cell_of HG3.out 3 (v:=.int .i64 (u:Nat)) rfl
 have g4:=cell_of HG3.out 4 (v:=.bool th) rfl
 go_wp2_with fail
 generalize w2.alloc (.cells #[.slice va vn vc,.int .i64 stop] 41)=w3 at *
 generalize w2.heap.size=k9 at *
 refine HA.out.mono ?_
 rw [HFK.out]
 rintro e w4 ⟨a,q,c,a',m,c',fv,rfl,hf,hfv,b4⟩
 clear g0 g1 g2 g3 g4
 have bx:Below w3.heap.size w3 (w4.alloc (.cells #[.slice a q c,.slice a' m c'] 64)):=b4.alloc b4.size _
 have HS:Hid (SnAt w #[.int .i64 1,.int .i64 (d:Nat),.int .i64 (n:Nat),.int .i64 (u:Nat),.bool th] k9 w4.heap.size va vn vc stop vis a q c a' m c' F (w4.alloc (.cells #[.slice a q c,.slice a' m c'] 64))) :=
  ⟨HL3.out.after bx,(bx.block _ (heap_lt HG3.out)).trans HG3.out,(bx.block _ (heap_lt HN3.out)).trans HN3.out,heap_alloc_new _ _,HV3.out.below bx,hf.below (below_alloc1 w4 (.cells #[.slice a q c,.slice a' m c'] 64)),HB3.out.trans (bx.mono HB3.out.size)⟩
 obtain ⟨t1,hT1⟩:=tell_any2 (HE3.out.later bx) HS.out.l
 have HF1:Hid (ErrV _ _ _):=hfv.laid (.cells #[.slice a q c,.slice a' m c'] 64)
 have HTL:Hid (Calls _ _ _ _ _):=hT1
 clear HA HL3 HT3 HG3 HN3 HV3 HE3 HB3 hf hfv b4 bx hT1
 go_wp2_with fail
 generalize w4.alloc (.cells #[.slice a q c,.slice a' m c'] 64)=w5 at *
 generalize w4.heap.size=k11 at *
 refine HTL.out.mono ?_
 rintro e w6 ⟨rfl,b6⟩
 have HS6:Hid (SnAt w #[.int .i64 1,.int .i64 (d:Nat),.int .i64 (n:Nat),.int .i64 (u:Nat),.bool th] k9 k11 va vn vc stop vis a q c a' m c' F w6):=HS.out.call b6
 obtain ⟨t2,hT2⟩:∃ t2:Nat,Calls Tryz.prog 16 #[fv] w6 fun e w'=>e=.returned (.tuple #[.int .i64 (k:Nat),.int .i64 (t2:Nat)])∧Below w6.heap.size w6 w':=tell_any (HF1.out.later b6) HS6.out.l
 have HTM:Hid (Calls _ _ _ _ _):=hT2
 clear HTL HF1 HS b6 hT2
 go_wp2_with fail
 refine HTM.out.mono ?_
 rintro e w7 ⟨rfl,b7⟩
 have HS7:Hid (SnAt w #[.int .i64 1,.int .i64 (d:Nat),.int .i64 (n:Nat),.int .i64 (u:Nat),.bool th] k9 k11 va vn vc stop vis a q c a' m c' F w7):=HS6.out.call b7
 clear HTM HS6 b7
 by_cases hk:k=0
 ·subst hk
  obtain ⟨hV,hA⟩:=HSN.out rfl
  have HV:Hid (∀ v ∈ vis,_):=hV
  have HAL:Hid (stop<0∨F.2[stop.toNat]?=some 2):=hA
  clear HSN hV hA
  go_wp2_with (go_at_call 18; refine (num_calls _ _).mono ?_; rintro e wN ⟨rfl,rfl⟩)
  obtain rfl:vn=vis.length:=by obtain ⟨_,_,e,_⟩:=HS7.out.v; cases e; rfl
  have hl2:(vis.length:Int)≤500:=by omega
  have hqF:q=F.1.length:=HS7.out.f.n
  have hmF:m=F.2.length:=HS7.out.f.m
  have HQF:Hid (q=F.1.length):=hqF
  have HMF:Hid (m=F.2.length):=hmF
  have hq2:(q:Int)≤1000:=by omega
  have hm2:(m:Int)≤1000:=by omega
  clear hqF hmF
  obtain ⟨cf,hcf⟩:∃ cf,cf=#[Value.int .i64 1,.int .i64 (d:Nat),.int .i64 (n:Nat),.int .i64 (u:Nat),.bool th]:=⟨_,rfl⟩
  have hcf0:cf[0]?=some (.int .i64 1):=by rw [hcf]; rfl
  rw [← hcf] at HS7
  clear hcf
  go_loopw [17] (fun v17 wr=>∃ j:Nat,j≤vis.length∧v17=.int .i64 j∧Hid (SnAt w cf k9 k11 va vis.length vc stop vis a q c a' m c' F wr)) (fun v17 _=>vis.length - (intOf v17).toNat)
  case atStart=>exact ⟨0,Nat.zero_le _,rfl,HS7.out⟩
  case round =>
   obtain ⟨j,hj,rfl,hq⟩:=hrel
   clear HS7
   have c0:=cell_of hq.out.t 0 (v:=.slice va vis.length vc) rfl
   by_cases hjlt:j<vis.length
   ·have hji:((j:Nat):Int)<((vis.length:Nat):Int):=by omega
    obtain ⟨x,hx⟩:∃ x,vis[j]?=some x:=⟨_,List.getElem?_eq_getElem hjlt⟩
    obtain ⟨hp0,e,hFp,hek⟩:=HV.out x (List.mem_of_getElem? hx)
    obtain ⟨p,hp⟩:∃ p:Nat,x.1=(p:Int):=⟨x.1.toNat,by omega⟩
    rw [hp,Int.toNat_natCast] at hFp
    have hplt:((p:Nat):Int)<((q:Nat):Int):=by rw [HQF.out]; have:=(List.getElem?_eq_some_iff.1 hFp).1; omega
    obtain ⟨gF,rfl,_⟩:=hq.out.f.f p (some e) hFp
    obtain ⟨g,rfl⟩:∃ g,va=some ⟨g,0,none⟩:=by
     obtain ⟨_,_,e1,_,h3⟩:=hq.out.v
     cases e1
     obtain ⟨g,h,_⟩:=h3 (fun h=>by rw [h] at hjlt; cases hjlt)
     exact ⟨g,h⟩
    have HVS:Hid (∀ W,SnAt w cf k9 k11 (some ⟨g,0,none⟩) vis.length vc stop vis (some ⟨gF,0,none⟩) q c a' m c' F W→∀ i u,(visCell x)[i]?=some u→W.cell? ⟨g,j * 9 + i,none⟩=some u):=fun W hW i u hu=>by
     obtain ⟨_,_,e1,_,h3⟩:=hW.v
     cases e1
     obtain ⟨g',h,h5⟩:=h3 (fun h=>by rw [h] at hjlt; cases hjlt)
     cases h
     exact h5 _ _ (visCells_get vis j x hx i u hu)
    have HFS:Hid (∀ W,SnAt w cf k9 k11 (some ⟨g,0,none⟩) vis.length vc stop vis (some ⟨gF,0,none⟩) q c a' m c' F W→W.rangeAt gF (p * 17) (fcC (some e)).toList):=fun W hW=>by
     obtain ⟨g',h,r⟩:=hW.f.f p (some e) hFp
     cases h
     exact r
    have v0:wr.cell? ⟨g,j * 9,none⟩=some (.int .i64 (p:Nat)):=HVS.out wr hq.out 0 (.int .i64 (p:Nat)) (by unfold visCell; rw [hp]; rfl)
    have f0:wr.cell? ⟨gF,p * 17,none⟩=some (.bool true):=HFS.out wr hq.out 0 (.bool true) rfl
    have r0:=cell_of hq.out.r 0 (v:=.slice (some ⟨gF,0,none⟩) q c) rfl
    have HEK:Hid (∀ k:Fin 8,_):=hek
    have hd1:decide (((p:Nat):Int)<0)=false:=decide_eq_false (by omega)
    have hd2:decide (q≤p)=false:=decide_eq_false (by omega)
    have hd3:decide (((q:Nat):Int)≤((p:Nat):Int))=false:=decide_eq_false (by omega)
    clear hek hFp hx HV
    go_wp2_with fail
    go_loopw [19] (fun v19 ws=>∃ i:Nat,i≤8∧v19=.int .i64 i∧Hid (SnAt w cf k9 k11 (some ⟨g,0,none⟩) vis.length vc stop vis (some ⟨gF,0,none⟩) q c a' m c' F ws)) (fun v19 _=>8 - (intOf v19).toNat)
    case atStart=>exact ⟨0,by omega,rfl,hq.out⟩
    case round =>
     obtain ⟨i,hi,rfl,hq'⟩:=hrel
     by_cases h8:i<8
     ·have hi8:((i:Nat):Int)<8:=by omega
      obtain ⟨hmem,hz,hwf⟩:=HEK.out ⟨i,h8⟩
      have hfc:=fc_at e i h8
      have hvc:=vis_at x i h8
      obtain ⟨z,hzz⟩:∃ z,z=x.2.getD i 0:=⟨_,rfl⟩
      obtain ⟨ea,hea⟩:∃ z,z=(((e ⟨i,h8⟩).m:Nat):Int):=⟨_,rfl⟩
      obtain ⟨eb,heb⟩:∃ z,z=(e ⟨i,h8⟩).r:=⟨_,rfl⟩
      have HAS:Hid (∀ W:World,Calls Tryz.prog 48 #[.int .i64 1,.agg #[.int .i64 ea,.int .i64 eb],.int .i64 z] W fun e w'=>e=.returned (.bool true)∧Below W.heap.size W w'):=fun W=>by rw [hea,heb,hzz]; exact has_calls (e ⟨i,h8⟩) _ W hwf hmem hz
      rw [← hzz] at hz hvc
      rw [← hea] at hfc
      rw [← heb] at hfc
      clear hmem hwf
      obtain ⟨A0,HA0⟩:∃ A0,Hid (A0=p * 17):=⟨_,rfl⟩
      obtain ⟨A1,HA1⟩:∃ A1,Hid (A1=A0 + 1):=⟨_,rfl⟩
      obtain ⟨A8,HA8⟩:∃ A8,Hid (A8=A1 + i * 2):=⟨_,rfl⟩
      obtain ⟨J0,HJ0⟩:∃ J0,Hid (J0=j * 9):=⟨_,rfl⟩
      obtain ⟨J1,HJ1⟩:∃ J1,Hid (J1=J0 + 1):=⟨_,rfl⟩
      obtain ⟨J8,HJ8⟩:∃ J8,Hid (J8=J1 + i):=⟨_,rfl⟩
      have HC:Hid (∀ W,SnAt w cf k9 k11 (some ⟨g,0,none⟩) vis.length vc stop vis (some ⟨gF,0,none⟩) q c a' m c' F W→W.cell? ⟨gF,A8,none⟩=some (.int .i64 ea)∧W.cell? ⟨gF,A8 + 1,none⟩=some (.int .i64 eb)∧W.cell? ⟨g,J8,none⟩=some (.int .i16 z)):=fun W hW=>by
       rw [HA8.out,HA1.out,HA0.out,HJ8.out,HJ1.out,HJ0.out]
       refine ⟨?_,?_,?_⟩
       ·rw [Nat.add_assoc (p * 17)]; exact HFS.out W hW _ _ hfc.1
       ·rw [show p * 17 + 1 + i * 2 + 1=p * 17 + (1 + i * 2 + 1) by omega]; exact HFS.out W hW _ _ hfc.2
       ·rw [Nat.add_assoc (j * 9)]; exact HVS.out W hW _ _ hvc
      have hwz:IntKind.i64.wrap z=z:=by rw [IntKind.wrap_i64]; obtain ⟨z1,z2⟩:=hz; omega
      clear hfc hvc hzz hea heb hz
      go_wp2_with fail
      refine wp_region_held_drew (S:=fun w':World=>SnAt w cf k9 k11 (some ⟨g,0,none⟩) vis.length vc stop vis (some ⟨gF,0,none⟩) q c a' m c' F w') (by kernel_rfl) (hq'.out.call (Below.refl _ _).drew) (fun hHeld=>?_)
      refine tk 0 (.pointer (some ⟨w.heap.size,0,none⟩)) rfl (fun w' h=>by go_simp) hHeld ?_
      simp only [Act.put]
      refine tk 1 (.int .i64 1) rfl (fun w' h=>by have d:=cell_of h.g 0 hcf0; go_simp) hHeld ?_
      simp only [Act.put]
      refine tk 2 (.pointer (some ⟨k11,0,none⟩)) rfl (fun w' h=>by go_simp) hHeld ?_
      simp only [Act.put]
      refine tk 3 (.slice (some ⟨gF,0,none⟩) q c) rfl (fun w' h=>by have d:=cell_of h.r 0 (v:=.slice (some ⟨gF,0,none⟩) q c) rfl; go_simp) hHeld ?_
      simp only [Act.put]
      refine tk 4 (.int .i64 (p:Nat)) rfl (fun w' h=>by go_simp) hHeld ?_
      simp only [Act.put]
      refine tk 5 (.int .i64 (i:Nat)) rfl (fun w' h=>by go_simp) hHeld ?_
      simp only [Act.put]
      refine tk 6 (.pointer (some ⟨gF,A0,none⟩)) rfl (fun w' h=>by rw [HA0.out]; go_simp) hHeld ?_
      simp only [Act.put]
      refine tk 7 (.pointer (some ⟨gF,A1,none⟩)) rfl (fun w' h=>by rw [HA1.out]; go_simp) hHeld ?_
      simp only [Act.put]
      refine tk 8 (.pointer (some ⟨gF,A8,none⟩)) rfl (fun w' h=>by rw [HA8.out]; go_simp) hHeld ?_
      simp only [Act.put]
      refine tk 9 (.agg #[.int .i64 ea,.int .i64 eb]) rfl (fun w' h=>by obtain ⟨d1,d2,_⟩:=HC.out _ h; go_simp) hHeld ?_
      simp only [Act.put]
      refine tk 10 (.pointer (some ⟨k9,0,none⟩)) rfl (fun w' h=>by go_simp) hHeld ?_
      simp only [Act.put]
      refine tk 11 (.slice (some ⟨g,0,none⟩) vis.length vc) rfl (fun w' h=>by have d:=cell_of h.t 0 (v:=.slice (some ⟨g,0,none⟩) vis.length vc) rfl; go_simp) hHeld ?_
      simp only [Act.put]
      refine tk 12 (.int .i64 (j:Nat)) rfl (fun w' h=>by go_simp) hHeld ?_
      simp only [Act.put]
      refine tk 13 (.int .i64 (i:Nat)) rfl (fun w' h=>by go_simp) hHeld ?_
      simp only [Act.put]
      refine tk 14 (.pointer (some ⟨g,J0,none⟩)) rfl (fun w' h=>by rw [HJ0.out]; go_simp) hHeld ?_
      simp only [Act.put]
      refine tk 15 (.pointer (some ⟨g,J1,none⟩)) rfl (fun w' h=>by rw [HJ1.out]; go_simp) hHeld ?_
      simp only [Act.put]
      refine tk 16 (.pointer (some ⟨g,J8,none⟩)) rfl (fun w' h=>by rw [HJ8.out]; go_simp) hHeld ?_
      simp only [Act.put]
      refine tk 17 (.int .i16 z) rfl (fun w' h=>by have d:=(HC.out _ h).2.2; go_simp) hHeld ?_
      simp only [Act.put]
      refine tk 18 (.int .i64 z) rfl (fun w' h=>by go_simp) hHeld ?_
      simp only [Act.put]
      refine rd1 19 fun K hK=>?_
      simp only [gsb,gsa]
      go_simp
      refine (HAS.out _).mono ?_
      rintro r w8 ⟨rfl,b8⟩
      go_wp2_with fail
      refine hK.out _ _ (hHeld.call b8) (fun hHeld=>?_)
      clear hK K
      refine rd1 20 fun K hK=>?_
      simp only [gsb]
      go_simp
      refine hK.out _ _ hHeld (fun _=>?_)
      clear hK K
      refine wpAnyH_done (by kernel_rfl) ?_ _
      go_wp2_with fail
      exact ⟨⟨i + 1,by omega,by go_num,hHeld⟩,by simp [intOf]; omega⟩
     ·obtain rfl:i=8:=by omega
      go_wp2_with fail
      exact ⟨⟨j + 1,by omega,by go_num,hq'⟩,by simp [intOf]; omega⟩
   ·obtain rfl:j=vis.length:=by omega
    have m1:=cell_of hq.out.t 1 (v:=.int .i64 stop) rfl
    have r1:=cell_of hq.out.r 1 (v:=.slice a' m c') rfl
    by_cases h0:0≤stop
    ·have hal:F.2[stop.toNat]?=some 2:=by
      rcases HAL.out with h | h
      ·omega
      ·exact h
     have hlt:=(List.getElem?_eq_some_iff.1 hal).1
     have hst:stop<(m:Int):=by rw [HMF.out]; omega
     obtain ⟨st,rfl⟩:∃ st:Nat,stop=st:=⟨stop.toNat,by omega⟩
     obtain ⟨gS,rfl,hc⟩:=hq.out.f.s _ _ hal
     simp only [Int.toNat_natCast] at hc
     clear hal hlt HAL
     go_wp2_with fail
     go_ret
     exact ⟨rfl,hq.out.b⟩
    ·go_wp2_with fail
     go_ret
     exact ⟨rfl,hq.out.b⟩
 ·have hk':¬ ((k:Nat):Int)=0:=by omega
  go_wp2_with (go_at_call 18; refine (num_calls _ _).mono ?_; rintro e wN ⟨rfl,rfl⟩)
  go_ret
  exact ⟨rfl,HS7.out.b⟩
end WC
end Go.Proofs.YtiopfihjmkfdmaaGreatDoor
namespace Go.Proofs.YtiopfihjmkfdmaaGreatDoor
namespace WC
open Go.RowKit
set_option maxRecDepth 100000
set_option maxHeartbeats 8000000
theorem Left_calls (s:ByteArray) (lv:Value) (l:List Int) (delay narrow unroll:Int) (w:World) (hL:Laid2 w) (hT:Turns w) (hin:IntsAt w lv l) :
  Calls Tryz.prog 13 #[.string s,lv,.int .i64 delay,.int .i64 narrow,.int .i64 unroll] w fun e w'=>e=.returned (.bool true)∧Below w.heap.size w w':=by
 have hr:=runs_calls w hL
 have hlv:=hin
 obtain ⟨ad,cap,rfl,hcap,_⟩:=hin
 have HK:Hid (∀ w1,Below w.heap.size w w1→Calls _ _ _ w1 _):=fun w1 b1=>knows_calls w1 (hL.after b1) (turns_after hT hL b1)
 by_cases hs:1048576<s.size
 ·go_enter Tryz.func13,Tryz.ntmps13
  go_wp2_with fail
  refine hr.mono ?_
  rintro e w1 ⟨rfl,b1⟩
  clear hr
  go_wp2_with fail
  refine (HK.out w1 b1).mono ?_
  rintro e w2 ⟨rfl,b2⟩
  go_wp2_with fail
  go_ret
  exact ⟨rfl,b1.trans (b2.mono b1.size)⟩
 by_cases hl:1048576<l.length
 ·have hs2:¬ (1048576:Int)<(s.size:Int):=by omega
  go_enter Tryz.func13,Tryz.ntmps13
  go_wp2_with fail
  refine hr.mono ?_
  rintro e w1 ⟨rfl,b1⟩
  clear hr
  go_wp2_with fail
  refine (HK.out w1 b1).mono ?_
  rintro e w2 ⟨rfl,b2⟩
  go_wp2_with fail
  go_ret
  exact ⟨rfl,b1.trans (b2.mono b1.size)⟩
 have hs':s.size≤1048576:=by omega
 have hs2:¬ (1048576:Int)<(s.size:Int):=by omega
 have hl':l.length≤1048576:=by omega
 have hl2:¬ (1048576:Int)<(l.length:Int):=by omega
 obtain ⟨d,n,u,hd,hn,hu,hcf⟩:=config_calls delay narrow unroll false
 have HCF:Hid (∀ w,Calls _ _ _ w _):=hcf
 have HL:Hid (Laid2 w):=hL
 have HT:Hid (Turns w):=hT
 have HLV:Hid (IntsAt w _ l):=hlv
 clear hcf hL hT hlv
 go_enter Tryz.func13,Tryz.ntmps13
 go_wp2_with fail
 refine hr.mono ?_
 rintro e w1 ⟨rfl,b1⟩
 clear hr
 go_wp2_with fail
 refine (HK.out w1 b1).mono ?_
 rintro e w2 ⟨rfl,b2⟩
 have HB2:Hid (Below w.heap.size w w2):=b1.trans (b2.mono b1.size)
 clear HK b1 b2
 go_wp2_with fail
 refine (HCF.out w2).mono ?_
 rintro e w3 ⟨rfl,b3⟩
 have HB4:Hid (Below w.heap.size w (w3.alloc (.cells #[.int .i64 1,.int .i64 (d:Nat),.int .i64 (n:Nat),.int .i64 (u:Nat),.bool false] 58))):=(HB2.out.trans (b3.mono HB2.out.size)).alloc (HB2.out.trans (b3.mono HB2.out.size)).size _
 have HS:Hid (Calls _ _ _ _ _):=sound_calls s (.slice ad l.length cap) l d n u false (w3.alloc (.cells #[.int .i64 1,.int .i64 (d:Nat),.int .i64 (n:Nat),.int .i64 (u:Nat),.bool false] 58)) hs' hl' (HL.out.after HB4.out) (turns_after HT.out HL.out HB4.out) (HLV.out.after HB4.out) hd hn hu
 have HG:Hid (_=_):=heap_alloc_new w3 (.cells #[.int .i64 1,.int .i64 (d:Nat),.int .i64 (n:Nat),.int .i64 (u:Nat),.bool false] 58)
 have g0:=cell_of HG.out 0 (v:=.int .i64 1) rfl
 have g1:=cell_of HG.out 1 (v:=.int .i64 (d:Nat)) rfl
 have g2:=cell_of HG.out 2 (v:=.int .i64 (n:Nat)) rfl
 have g3:=cell_of HG.out 3 (v:=.int .i64 (u:Nat)) rfl
 have g4:=cell_of HG.out 4 (v:=.bool false) rfl
 clear HB2 b3 HCF HG
 go_wp2_with fail
 refine HS.out.mono ?_
 rintro e w5 ⟨rfl,b5⟩
 go_wp2_with fail
 go_ret
 exact ⟨rfl,HB4.out.trans (b5.mono HB4.out.size)⟩
end WC
end Go.Proofs.YtiopfihjmkfdmaaGreatDoor
