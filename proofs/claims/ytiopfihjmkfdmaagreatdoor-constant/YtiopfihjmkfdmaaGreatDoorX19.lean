import Derived.Test.YtiopfihjmkfdmaaGreatDoorX14
namespace Go.Proofs.YtiopfihjmkfdmaaGreatDoor
open Go.RowKit
set_option maxRecDepth 100000
set_option maxHeartbeats 400000
theorem tokKind_end {l:Sp.Bs}:Sp.tokKind l=1 ↔ l=[]:=by
 cases l with
 | nil=>simp [Sp.tokKind]
 | cons c r =>
  rw [Sp.tokKind_cons]
  constructor
  ·intro h
   split at h
   ·omega
   ·split at h
    ·omega
    ·split at h <;> omega
  ·intro h; cases h
theorem row_slice0 {w:World} {base:Nat} {e:TypeId} {sz:Nat} {v:Value} {n:Nat} {vs:List Value} (h:w.ownsRow base e sz v n vs):∃ a m c,v=.slice a m c:=by
 rcases h.2 with ⟨rfl,_⟩ | ⟨g,cap,cur,rfl,_⟩
 ·exact ⟨_,_,_,rfl⟩
 ·exact ⟨_,_,_,rfl⟩
theorem program_calls {A:Sp.Alg} {Rp:Rep A} (Rt:RepT A Rp) (b:Nat) (s:ByteArray) (m1 m2:Nat) (l:Sp.Bs) (ct:Int × Int) (w:World) (h:Rd b s m1 m2 l 0 ct w) (hE:Env b m1 m2 w) :
  Calls Tryz.prog 58 #[.pointer (some ⟨b,0,none⟩)] w fun e w'=>match Sp.pProg A l with
   | .ok xs=>∃ v ct' nv ns,e=.returned (.agg #[v,.int .i64 ct'.1,.int .i64 ct'.2,nv])∧Blk Rt.T ct w.heap.size w'.heap.size w' v xs ct'∧Ext b w w'∧w'.ownsRow (b + 1) 226 1 nv ns.length (numVals ns)∧Sp.Nums (Sp.skip s.data.toList) [] ns
   | .error er=>Faulty s b w er e w':=by
 have hlt:=h.lt
 have hx0:Ext b w (w.alloc (.cells #[.slice none 0 0,.int .i64 0,.int .i64 0,.slice none 0 0] 86)):=(Ext.refl b w).alloc _
 have hc:=statements_calls Rt b s m1 m2 0 (l.length + 1) (Sp.pStmt A (l.length + 1) 0) (Sp.pStmt_lt _ _) (statement_reads Rt b s m1 m2 (l.length + 1) 0 (by omega)) l ct (w.alloc (.cells #[.slice none 0 0,.int .i64 0,.int .i64 0,.slice none 0 0] 86)) (Nat.lt_succ_self _) (h.ext _) (hE.ext hx0)
 unfold Sp.pProg
 cases hr:Sp.pMany A (Sp.pStmt A (l.length + 1) 0) (l.length + 1) [] l with
 | error er =>
  rw [hr] at hc
  go_enter Tryz.func58,Tryz.ntmps58
  go_wp2_with fail
  refine hc.mono ?_
  rintro e w1 ⟨N,rfl,hf⟩
  exact ⟨rfl,Faulty.ahead hx0 ⟨N,rfl,hf⟩⟩
 | ok xl =>
  obtain ⟨xs,l1⟩:=xl
  rw [hr] at hc
  simp only
  by_cases he:l1=[]
  ·rw [if_pos he]
   have hk:=tokKind_end.2 he
   go_enter Tryz.func58,Tryz.ntmps58
   go_wp2_with fail
   refine hc.mono ?_
   rintro e w1 ⟨v,rfl,ct1,hv,h1,x1⟩
   have c2:w1.cell? ⟨b,2,none⟩=some (.int .i64 1):=by rw [h1.c2,hk]; rfl
   obtain ⟨a1,n1,c1,rfl⟩:=blk_slice hv
   have hnb:=new_block x1 hlt
   have k0:=cell_of hnb 0 (v:=.slice none 0 0) rfl
   have k1:=cell_of hnb 1 (v:=.int .i64 0) rfl
   have k2:=cell_of hnb 2 (v:=.int .i64 0) rfl
   have k3:=cell_of hnb 3 (v:=.slice none 0 0) rfl
   have f0:=frozen_of hnb 0
   have f1:=frozen_of hnb 1
   have f2:=frozen_of hnb 2
   have f3:=frozen_of hnb 3
   have c5:=h1.c5
   have c6:=h1.c6
   obtain ⟨nv,ns,hN,hL⟩:=h1
   obtain ⟨an,nn,cn,rfl⟩:=row_slice0 hN.row
   have c7:w1.cell? ⟨b,7,none⟩=some (.slice an nn cn):=cell_of hN.blk 7 rfl
   have hW:=heap_setCell_at (heap_setCell_at (heap_setCell_at (heap_setCell_at hnb 0 (.slice a1 n1 c1)) 1 (.int .i64 ct1.1)) 2 (.int .i64 ct1.2)) 3 (.slice an nn cn)
   have q0:=cell_of hW 0 (v:=.slice a1 n1 c1) rfl
   have q1:=cell_of hW 1 (v:=.int .i64 ct1.1) rfl
   have q2:=cell_of hW 2 (v:=.int .i64 ct1.2) rfl
   have q3:=cell_of hW 3 (v:=.slice an nn cn) rfl
   have HX:Hid (Ext b w ((((w1.setCell ⟨w.heap.size,0,none⟩ (.slice a1 n1 c1)).setCell ⟨w.heap.size,1,none⟩ (.int .i64 ct1.1)).setCell ⟨w.heap.size,2,none⟩ (.int .i64 ct1.2)).setCell ⟨w.heap.size,3,none⟩ (.slice an nn cn)).drew) :=
    (((((hx0.trans x1).setCell (p:=⟨w.heap.size,0,none⟩) (.inr (Nat.le_refl _)) _).setCell (p:=⟨w.heap.size,1,none⟩) (.inr (Nat.le_refl _)) _).setCell (p:=⟨w.heap.size,2,none⟩) (.inr (Nat.le_refl _)) _).setCell (p:=⟨w.heap.size,3,none⟩) (.inr (Nat.le_refl _)) _).drew
   have HV:Hid (Blk Rt.T ct w.heap.size ((((w1.setCell ⟨w.heap.size,0,none⟩ (.slice a1 n1 c1)).setCell ⟨w.heap.size,1,none⟩ (.int .i64 ct1.1)).setCell ⟨w.heap.size,2,none⟩ (.int .i64 ct1.2)).setCell ⟨w.heap.size,3,none⟩ (.slice an nn cn)).drew.heap.size ((((w1.setCell ⟨w.heap.size,0,none⟩ (.slice a1 n1 c1)).setCell ⟨w.heap.size,1,none⟩ (.int .i64 ct1.1)).setCell ⟨w.heap.size,2,none⟩ (.int .i64 ct1.2)).setCell ⟨w.heap.size,3,none⟩ (.slice an nn cn)).drew (.slice a1 n1 c1) xs ct1) :=
    Blk.mono Rt hv (by simp) (by simp [World.setCell]) (((((SameOn.refl _ _ _).setCell (p:=⟨w.heap.size,0,none⟩) (.inl (by show w.heap.size<(w.alloc _).heap.size; simp)) _).setCell (p:=⟨w.heap.size,1,none⟩) (.inl (by show w.heap.size<(w.alloc _).heap.size; simp)) _).setCell (p:=⟨w.heap.size,2,none⟩) (.inl (by show w.heap.size<(w.alloc _).heap.size; simp)) _).setCell (p:=⟨w.heap.size,3,none⟩) (.inl (by show w.heap.size<(w.alloc _).heap.size; simp)) _)
   have hnr:∀ k,NumB w1.heap[k]?→k ≠ w.heap.size:=fun k hk e=>by
    rw [e,hnb] at hk
    exact not_num (by decide) hk
   have HR:Hid (((((w1.setCell ⟨w.heap.size,0,none⟩ (.slice a1 n1 c1)).setCell ⟨w.heap.size,1,none⟩ (.int .i64 ct1.1)).setCell ⟨w.heap.size,2,none⟩ (.int .i64 ct1.2)).setCell ⟨w.heap.size,3,none⟩ (.slice an nn cn)).drew.ownsRow (b + 1) 226 1 (.slice an nn cn) ns.length (numVals ns)) :=
    row_keep hN.row (fun k _ _ hkn=>by
     have:=hnr k hkn
     show ((((w1.setCell ⟨w.heap.size,0,none⟩ (.slice a1 n1 c1)).setCell ⟨w.heap.size,1,none⟩ (.int .i64 ct1.1)).setCell ⟨w.heap.size,2,none⟩ (.int .i64 ct1.2)).setCell ⟨w.heap.size,3,none⟩ (.slice an nn cn)).heap[k]?=_
     rw [Below.heap_setCell _ _ _ _ this,Below.heap_setCell _ _ _ _ this,Below.heap_setCell _ _ _ _ this,Below.heap_setCell _ _ _ _ this])
   have HL:Hid (Sp.Nums (Sp.skip s.data.toList) [] ns):=by rw [he] at hL; exact hL
   have Q0:Hid (_=_):=q0
   have Q1:Hid (_=_):=q1
   have Q2:Hid (_=_):=q2
   have Q3:Hid (_=_):=q3
   have hbn:b ≠ w.heap.size:=by omega
   have C5:(w1.setCell ⟨w.heap.size,0,none⟩ (.slice a1 n1 c1)).cell? ⟨b,5,none⟩=some (.int .i64 ct1.1):=by
    rw [World.cell?_of_block (w:=w1) (by rw [Below.heap_setCell _ _ _ _ hbn])]; exact c5
   have C6:((w1.setCell ⟨w.heap.size,0,none⟩ (.slice a1 n1 c1)).setCell ⟨w.heap.size,1,none⟩ (.int .i64 ct1.1)).cell? ⟨b,6,none⟩=some (.int .i64 ct1.2):=by
    rw [World.cell?_of_block (w:=w1) (by rw [Below.heap_setCell _ _ _ _ hbn,Below.heap_setCell _ _ _ _ hbn])]; exact c6
   have C7:(((w1.setCell ⟨w.heap.size,0,none⟩ (.slice a1 n1 c1)).setCell ⟨w.heap.size,1,none⟩ (.int .i64 ct1.1)).setCell ⟨w.heap.size,2,none⟩ (.int .i64 ct1.2)).cell? ⟨b,7,none⟩=some (.slice an nn cn):=by
    rw [World.cell?_of_block (w:=w1) (by rw [Below.heap_setCell _ _ _ _ hbn,Below.heap_setCell _ _ _ _ hbn,Below.heap_setCell _ _ _ _ hbn])]; exact c7
   clear hv q0 q1 q2 q3 hW hnb hN hL hnr
   go_wp2_with fail
   go_region_with (fail)
   all_goals
    go_wp2_with fail
    exact bodyPost_ret (v:=.agg #[.slice a1 n1 c1,.int .i64 ct1.1,.int .i64 ct1.2,.slice an nn cn]) (by simp [results,Tryz.results58,go_sem,Q0.out,Q1.out,Q2.out,Q3.out]) rfl ⟨_,ct1,_,ns,rfl,HV.out,HX.out,HR.out,HL.out⟩
  ·rw [if_neg he,show (Sp.bad 2 l1:Except (Nat × Nat) (List A.T))=.error (2,l1.length) from rfl]
   have hk:¬ Sp.tokKind l1=1:=fun h=>he (tokKind_end.1 h)
   go_enter Tryz.func58,Tryz.ntmps58
   go_wp2_with fail
   refine hc.mono ?_
   rintro e w1 ⟨v,rfl,ct1,hv,h1,x1⟩
   have c2:=h1.c2
   have n1:¬ (((Sp.tokKind l1:Nat):Int)=1):=by omega
   have b1:(((Sp.tokKind l1:Nat):Int) == 1)=false:=by simpa using n1
   clear hv hk
   generalize Sp.tokKind l1=kd at c2 n1 b1
   go_wp2_with fail
   refine (fault_calls h1 2).mono ?_
   rintro e w2 ⟨rfl,rfl⟩
   go_wp2_with fail
   exact ⟨rfl,Faulty.ahead (hx0.trans x1) (faulty_of h1 2 2 rfl)⟩
end Go.Proofs.YtiopfihjmkfdmaaGreatDoor
namespace Go.Proofs.YtiopfihjmkfdmaaGreatDoor
open Go.RowKit
set_option maxRecDepth 100000
set_option maxHeartbeats 400000
def ErrAt (w:World) (B:Nat) (v:Value) (er:Nat × Nat):Prop :=
 (v=.iface 26 (.int .i64 1)∧er=(1,0))∨∃ N,B≤N∧v=.iface 90 (.pointer (some ⟨N,0,none⟩))∧w.heap[N]?=some (.cells #[.int .i64 er.2,.int .i64 er.1] 96)
theorem makes (fn:Fn) (first cap:Array Value) (w:World):(Instr.makeFunc fn first cap).run Tryz.prog w=.ok (.func fn first cap) w:=rfl
theorem Program_long (s:ByteArray) (w:World) (hs:400<s.size) :
  Calls Tryz.prog 36 #[.string s] w fun e w'=>e=.returned (.tuple #[.agg #[.slice none 0 0,.int .i64 0,.int .i64 0,.slice none 0 0],.iface 26 (.int .i64 1)])∧Below w.heap.size w w':=by
 have hmf:=makes
 go_enter_defers Tryz.func36,Tryz.ntmps36
 go_wp2_with fail
 simp [bodyPostD,Leaves,results,Tryz.results36,go_sem]
 exact ((Below.refl _ _).alloc (Nat.le_refl _) _).alloc (by simp) _
def rdObj (s:ByteArray) (m1 m2:Nat) (l:Sp.Bs):Obj :=
 .cells #[.string s,.int .i64 ((s.size - l.length:Nat):Int),.int .i64 (Sp.tokKind l),.string ⟨(Sp.tok l).toArray⟩,.int .i64 0,.int .i64 0,.int .i64 0,.slice none 0 0,.map (some m1),.map (some m2)] 147
theorem rd_laid {s:ByteArray} {wa wb wc:World} (l:Sp.Bs) (hl:l=Sp.skip s.data.toList) (hL:Laid wa) (hs:s.size≤400) (ho:OpsMap wa.heap.size wb) (hb1:Below wa.heap.size wa wb) (hr:RelsMap wb.heap.size wc) (hb2:Below wb.heap.size wb wc) :
  Rd wc.heap.size s wa.heap.size wb.heap.size l 0 (0,0) (wc.alloc (rdObj s wa.heap.size wb.heap.size l)) ∧
  Env wc.heap.size wa.heap.size wb.heap.size (wc.alloc (rdObj s wa.heap.size wb.heap.size l)) ∧
  Below wa.heap.size wa (wc.alloc (rdObj s wa.heap.size wb.heap.size l))∧wa.heap.size<wc.heap.size:=by
 have h9:=hL.size
 have hlt1:wa.heap.size<wb.heap.size:=by obtain ⟨es,ck,hh,_⟩:=ho; exact heap_lt hh
 have hlt2:wb.heap.size<wc.heap.size:=by obtain ⟨es,ck,hh,_⟩:=hr; exact heap_lt hh
 have b3:Below wa.heap.size wa wc:=hb1.trans (hb2.mono (by omega))
 have b4:=b3.alloc (by omega) (rdObj s wa.heap.size wb.heap.size l)
 refine ⟨⟨.slice none 0 0,[],⟨heap_alloc_new _ _,by rw [hl]; exact Sp.skip_suffix _,hs,World.ownsRow_nil _ _ _ _⟩,by rw [hl]; exact .nil⟩,⟨hL.below b4 (by omega),?_,?_,by omega,by omega,by omega⟩,b4,by omega⟩
 ·have x:Ext wc.heap.size wb (wc.alloc (rdObj s wa.heap.size wb.heap.size l)):=(Ext.of_below hb2).alloc _
  exact ho.ext x (by omega)
 ·have x:Ext wc.heap.size wc (wc.alloc (rdObj s wa.heap.size wb.heap.size l)):=(Ext.refl _ _).alloc _
  exact hr.ext x (by omega)
theorem row_low {w:World} {base base':Nat} {e:TypeId} {sz:Nat} {v:Value} {n:Nat} {vs:List Value} (h:w.ownsRow base e sz v n vs) (hb:base'≤base):w.ownsRow base' e sz v n vs:=by
 obtain ⟨h1,h2⟩:=h
 refine ⟨h1,?_⟩
 rcases h2 with h2 | ⟨g,cap,cur,e,hg,r⟩
 ·exact .inl h2
 ·exact .inr ⟨g,cap,cur,e,Nat.le_trans hb hg,r⟩
theorem below_block {B:Nat} {w w':World} {k:Nat} {ob:Obj} (h:Below B w w') (hk:k<B) (hb:w.heap[k]?=some ob):w'.heap[k]?=some ob:=by rw [h.block k hk]; exact hb
def ProgPost {A:Sp.Alg} {Rp:Rep A} (Rt:RepT A Rp) (s:ByteArray) (w:World):Except (Nat × Nat) (List A.T)→Ending→World→Prop
 | .ok xs,e,w'=>∃ v ct' nv ns,e=.returned (.tuple #[.agg #[v,.int .i64 ct'.1,.int .i64 ct'.2,nv],.nilIface])∧Blk Rt.T (0,0) w.heap.size w'.heap.size w' v xs ct'∧Below w.heap.size w w'∧w'.ownsRow w.heap.size 226 1 nv ns.length (numVals ns)∧Sp.Nums (Sp.skip s.data.toList) [] ns
 | .error er,e,w'=>∃ v,e=.returned (.tuple #[.agg #[.slice none 0 0,.int .i64 0,.int .i64 0,.slice none 0 0],v])∧ErrAt w' w.heap.size v er∧Below w.heap.size w w'
theorem ProgPost.good {A:Sp.Alg} {Rp:Rep A} {Rt:RepT A Rp} {s:ByteArray} {w:World} {r:Except (Nat × Nat) (List A.T)} {xs:List A.T} {v:Value} {ct':Int × Int} {nv:Value} {ns:List Nat} {w':World} (hr:r=.ok xs) (h:Blk Rt.T (0,0) w.heap.size w'.heap.size w' v xs ct') (hb:Below w.heap.size w w') (hn:w'.ownsRow w.heap.size 226 1 nv ns.length (numVals ns)∧Sp.Nums (Sp.skip s.data.toList) [] ns):ProgPost Rt s w r (.returned (.tuple #[.agg #[v,.int .i64 ct'.1,.int .i64 ct'.2,nv],.nilIface])) w':=by
 rw [hr]; exact ⟨v,ct',nv,ns,rfl,h,hb,hn⟩
theorem ProgPost.bad {A:Sp.Alg} {Rp:Rep A} {Rt:RepT A Rp} {s:ByteArray} {w:World} {r:Except (Nat × Nat) (List A.T)} {er:Nat × Nat} {v:Value} {w':World} (hr:r=.error er) (h:ErrAt w' w.heap.size v er) (hb:Below w.heap.size w w'):ProgPost Rt s w r (.returned (.tuple #[.agg #[.slice none 0 0,.int .i64 0,.int .i64 0,.slice none 0 0],v])) w':=by
 rw [hr]; exact ⟨v,rfl,h,hb⟩
theorem Program_short {A:Sp.Alg} {Rp:Rep A} (Rt:RepT A Rp) (s:ByteArray) (w:World) (hs:s.size≤400) (hL:Laid w) :
  Calls Tryz.prog 36 #[.string s] w (ProgPost Rt s w (Sp.parse A s.data.toList)):=by
 have hmf:=makes
 have h9:=hL.size
 have hs':¬ (400:Int)<(s.size:Int):=by omega
 have hw2:Below w.heap.size w ((w.alloc (.cells #[.slice none 0 0,.int .i64 0,.int .i64 0,.slice none 0 0] 86)).alloc (.cells #[.nilIface] 23)):=((Below.refl _ _).alloc (Nat.le_refl _) _).alloc (by simp) _
 have z0:((w.alloc (.cells #[.slice none 0 0,.int .i64 0,.int .i64 0,.slice none 0 0] 86)).alloc (.cells #[.nilIface] 23)).heap[w.heap.size]?=some (.cells #[.slice none 0 0,.int .i64 0,.int .i64 0,.slice none 0 0] 86):=heap_alloc_old (heap_alloc_new _ _)
 have z1:((w.alloc (.cells #[.slice none 0 0,.int .i64 0,.int .i64 0,.slice none 0 0] 86)).alloc (.cells #[.nilIface] 23)).heap[w.heap.size + 1]?=some (.cells #[.nilIface] 23):=by
  have:=heap_alloc_new (w.alloc (.cells #[.slice none 0 0,.int .i64 0,.int .i64 0,.slice none 0 0] 86)) (.cells #[.nilIface] 23)
  simpa using this
 have hsc:Calls Tryz.prog 55 #[.string s,.int .i64 0] ((w.alloc (.cells #[.slice none 0 0,.int .i64 0,.int .i64 0,.slice none 0 0] 86)).alloc (.cells #[.nilIface] 23)) fun e w'=>e=.returned (.agg (tokVal s (Sp.skip s.data.toList)))∧Below ((w.alloc (.cells #[.slice none 0 0,.int .i64 0,.int .i64 0,.slice none 0 0] 86)).alloc (.cells #[.nilIface] 23)).heap.size ((w.alloc (.cells #[.slice none 0 0,.int .i64 0,.int .i64 0,.slice none 0 0] 86)).alloc (.cells #[.nilIface] 23)) w' :=
  scan_calls s 0 _ (Nat.zero_le _) hs
 have hsz2:((w.alloc (.cells #[.slice none 0 0,.int .i64 0,.int .i64 0,.slice none 0 0] 86)).alloc (.cells #[.nilIface] 23)).heap.size=w.heap.size + 2:=by simp
 have Z0:Hid (_=_):=z0
 have Z1:Hid (_=_):=z1
 have HSZ:Hid (_=_):=hsz2
 clear z0 z1 hsz2
 go_enter_defers Tryz.func36,Tryz.ntmps36
 go_wp2_with fail
 generalize (w.alloc (.cells #[.slice none 0 0,.int .i64 0,.int .i64 0,.slice none 0 0] 86)).alloc (.cells #[.nilIface] 23)=w2 at *
 refine hsc.mono ?_
 rintro e wa ⟨rfl,ba⟩
 rw [tokVal_eq]
 have hLa:Laid wa:=hL.below (hw2.trans (ba.mono (by rw [HSZ.out]; omega))) h9
 go_wp2_with fail
 refine (ops_calls wa hLa).mono ?_
 rintro e wb ⟨rfl,hob,bb⟩
 have hLb:Laid wb:=hLa.below bb (by have:=hLa.size; omega)
 go_wp2_with fail
 refine (rels_calls wb hLb).mono ?_
 rintro e wc ⟨rfl,hrc,bc⟩
 obtain ⟨h5,hE5,b5,hlt5⟩:=rd_laid (Sp.skip s.data.toList) rfl hLa hs hob bb hrc bc
 have hpr:=program_calls Rt wc.heap.size s wa.heap.size wb.heap.size (Sp.skip s.data.toList) (0,0) _ h5 hE5
 have hwa:w.heap.size + 2≤wa.heap.size:=by have:=ba.size; rw [HSZ.out] at this; exact this
 have b25:Below (w.heap.size + 2) w2 (wc.alloc (rdObj s wa.heap.size wb.heap.size (Sp.skip s.data.toList))):=(ba.mono (by rw [HSZ.out]; omega)).trans (b5.mono hwa)
 clear h5 hE5 hob hrc hsc
 generalize hO:rdObj s wa.heap.size wb.heap.size (Sp.skip s.data.toList)=ob at *
 have HO:Hid (rdObj s wa.heap.size wb.heap.size (Sp.skip s.data.toList)=ob):=hO
 clear hO
 go_wp2_with fail
 rw [show Obj.cells #[.string s,.int .i64 ((s.size - (Sp.skip s.data.toList).length:Nat):Int),.int .i64 (Sp.tokKind (Sp.skip s.data.toList)),.string ⟨(Sp.tok (Sp.skip s.data.toList)).toArray⟩,.int .i64 0,.int .i64 0,.int .i64 0,.slice none 0 0,.map (some wa.heap.size),.map (some wb.heap.size)] 147=ob from HO.out]
 refine hpr.mono ?_
 intro e w6 hp
 clear hpr
 cases hr:Sp.pProg A (Sp.skip s.data.toList) with
 | error er =>
  rw [hr] at hp
  obtain ⟨N,rfl,hN,x6,hNb,hNs⟩:=hp
  have b6:Below (w.heap.size + 2) w2 w6:=b25.trans (x6.below (by omega) (by simp; omega))
  have y0:=below_block b6 (by omega) Z0.out
  have y1:=below_block b6 (by omega) Z1.out
  refine leaves_cons (f:=54) (args:=#[.pointer (some ⟨w.heap.size,0,none⟩),.pointer (some ⟨w.heap.size + 1,0,none⟩)]) (by simp) (by simp [go_sem]) ?_
  refine (catch_panicking w.heap.size (w.heap.size + 1) ⟨N,0,none⟩ w6 _ _ _ _ _ (cell_of y0 0 rfl) (cell_of y0 1 rfl) (cell_of y0 2 rfl) (cell_of y0 3 rfl) (frozen_of y0 0) (frozen_of y0 1) (frozen_of y0 2) (frozen_of y0 3) (cell_of y1 0 rfl) (frozen_of y1 0) (by omega)).mono ?_
  rintro e u' w7 ⟨rfl,rfl,rfl⟩
  have v0:=heap_setCell_at (heap_setCell_at (heap_setCell_at (heap_setCell_at y0 0 (.slice none 0 0)) 1 (.int .i64 0)) 2 (.int .i64 0)) 3 (.slice none 0 0)
  have v1:((((w6.setCell ⟨w.heap.size,0,none⟩ (.slice none 0 0)).setCell ⟨w.heap.size,1,none⟩ (.int .i64 0)).setCell ⟨w.heap.size,2,none⟩ (.int .i64 0)).setCell ⟨w.heap.size,3,none⟩ (.slice none 0 0)).heap[w.heap.size + 1]?=some (.cells #[.nilIface] 23):=by
   rw [Below.heap_setCell _ _ _ _ (by show w.heap.size + 1 ≠ w.heap.size; omega),Below.heap_setCell _ _ _ _ (by show w.heap.size + 1 ≠ w.heap.size; omega),Below.heap_setCell _ _ _ _ (by show w.heap.size + 1 ≠ w.heap.size; omega),Below.heap_setCell _ _ _ _ (by show w.heap.size + 1 ≠ w.heap.size; omega)]; exact y1
  have u1:=heap_setCell_at v1 0 (.iface 90 (.pointer (some ⟨N,0,none⟩)))
  have u0:(((((w6.setCell ⟨w.heap.size,0,none⟩ (.slice none 0 0)).setCell ⟨w.heap.size,1,none⟩ (.int .i64 0)).setCell ⟨w.heap.size,2,none⟩ (.int .i64 0)).setCell ⟨w.heap.size,3,none⟩ (.slice none 0 0)).setCell ⟨w.heap.size + 1,0,none⟩ (.iface 90 (.pointer (some ⟨N,0,none⟩)))).heap[w.heap.size]?=some (.cells #[.slice none 0 0,.int .i64 0,.int .i64 0,.slice none 0 0] 86):=by
   rw [Below.heap_setCell _ _ _ _ (by show w.heap.size ≠ w.heap.size + 1; omega)]; exact v0
  have uN:(((((w6.setCell ⟨w.heap.size,0,none⟩ (.slice none 0 0)).setCell ⟨w.heap.size,1,none⟩ (.int .i64 0)).setCell ⟨w.heap.size,2,none⟩ (.int .i64 0)).setCell ⟨w.heap.size,3,none⟩ (.slice none 0 0)).setCell ⟨w.heap.size + 1,0,none⟩ (.iface 90 (.pointer (some ⟨N,0,none⟩)))).heap[N]?=some (.cells #[.int .i64 ((s.size - er.2:Nat):Int),.int .i64 er.1] 96):=by
   have:w.heap.size + 2≤N:=by have h1:=hNs; simp at h1; omega
   rw [Below.heap_setCell _ _ _ _ (by show N ≠ w.heap.size + 1; omega),Below.heap_setCell _ _ _ _ (by show N ≠ w.heap.size; omega),Below.heap_setCell _ _ _ _ (by show N ≠ w.heap.size; omega),Below.heap_setCell _ _ _ _ (by show N ≠ w.heap.size; omega),Below.heap_setCell _ _ _ _ (by show N ≠ w.heap.size; omega)]; exact hN
  have q0:(((((w6.setCell ⟨w.heap.size,0,none⟩ (.slice none 0 0)).setCell ⟨w.heap.size,1,none⟩ (.int .i64 0)).setCell ⟨w.heap.size,2,none⟩ (.int .i64 0)).setCell ⟨w.heap.size,3,none⟩ (.slice none 0 0)).setCell ⟨w.heap.size + 1,0,none⟩ (.iface 90 (.pointer (some ⟨N,0,none⟩)))).cell? ⟨w.heap.size,0,none⟩=some (.slice none 0 0):=cell_of u0 0 rfl
  have q0':(((((w6.setCell ⟨w.heap.size,0,none⟩ (.slice none 0 0)).setCell ⟨w.heap.size,1,none⟩ (.int .i64 0)).setCell ⟨w.heap.size,2,none⟩ (.int .i64 0)).setCell ⟨w.heap.size,3,none⟩ (.slice none 0 0)).setCell ⟨w.heap.size + 1,0,none⟩ (.iface 90 (.pointer (some ⟨N,0,none⟩)))).cell? ⟨w.heap.size,1,none⟩=some (.int .i64 0):=cell_of u0 1 rfl
  have q2:(((((w6.setCell ⟨w.heap.size,0,none⟩ (.slice none 0 0)).setCell ⟨w.heap.size,1,none⟩ (.int .i64 0)).setCell ⟨w.heap.size,2,none⟩ (.int .i64 0)).setCell ⟨w.heap.size,3,none⟩ (.slice none 0 0)).setCell ⟨w.heap.size + 1,0,none⟩ (.iface 90 (.pointer (some ⟨N,0,none⟩)))).cell? ⟨w.heap.size,2,none⟩=some (.int .i64 0):=cell_of u0 2 rfl
  have q3:(((((w6.setCell ⟨w.heap.size,0,none⟩ (.slice none 0 0)).setCell ⟨w.heap.size,1,none⟩ (.int .i64 0)).setCell ⟨w.heap.size,2,none⟩ (.int .i64 0)).setCell ⟨w.heap.size,3,none⟩ (.slice none 0 0)).setCell ⟨w.heap.size + 1,0,none⟩ (.iface 90 (.pointer (some ⟨N,0,none⟩)))).cell? ⟨w.heap.size,3,none⟩=some (.slice none 0 0):=cell_of u0 3 rfl
  have q1:(((((w6.setCell ⟨w.heap.size,0,none⟩ (.slice none 0 0)).setCell ⟨w.heap.size,1,none⟩ (.int .i64 0)).setCell ⟨w.heap.size,2,none⟩ (.int .i64 0)).setCell ⟨w.heap.size,3,none⟩ (.slice none 0 0)).setCell ⟨w.heap.size + 1,0,none⟩ (.iface 90 (.pointer (some ⟨N,0,none⟩)))).cell? ⟨w.heap.size + 1,0,none⟩=some (.iface 90 (.pointer (some ⟨N,0,none⟩))):=cell_of u1 0 rfl
  have b7:Below w.heap.size w (((((w6.setCell ⟨w.heap.size,0,none⟩ (.slice none 0 0)).setCell ⟨w.heap.size,1,none⟩ (.int .i64 0)).setCell ⟨w.heap.size,2,none⟩ (.int .i64 0)).setCell ⟨w.heap.size,3,none⟩ (.slice none 0 0)).setCell ⟨w.heap.size + 1,0,none⟩ (.iface 90 (.pointer (some ⟨N,0,none⟩)))) :=
   (((((hw2.trans (b6.mono (by omega))).setCell (p:=⟨w.heap.size,0,none⟩) (Nat.le_refl _) _).setCell (p:=⟨w.heap.size,1,none⟩) (Nat.le_refl _) _).setCell (p:=⟨w.heap.size,2,none⟩) (Nat.le_refl _) _).setCell (p:=⟨w.heap.size,3,none⟩) (Nat.le_refl _) _).setCell (p:=⟨w.heap.size + 1,0,none⟩) (Nat.le_succ _) _
  have hNw:w.heap.size≤N:=by have h1:=hNs; simp at h1; omega
  clear u0 u1 v0 v1 hN y0 y1
  generalize ((((w6.setCell ⟨w.heap.size,0,none⟩ (.slice none 0 0)).setCell ⟨w.heap.size,1,none⟩ (.int .i64 0)).setCell ⟨w.heap.size,2,none⟩ (.int .i64 0)).setCell ⟨w.heap.size,3,none⟩ (.slice none 0 0)).setCell ⟨w.heap.size + 1,0,none⟩ (.iface 90 (.pointer (some ⟨N,0,none⟩)))=W at *
  have hfin:Sp.parse A s.data.toList=.error (er.1,s.size - er.2):=by
   unfold Sp.parse
   rw [if_neg (by simp; omega),hr]
   simp
  simp [Leaves,settle,results,Tryz.results36,go_sem,q0,q0',q2,q3,q1]
  exact ProgPost.bad hfin (.inr ⟨N,hNw,rfl,uN⟩) b7
 | ok xs =>
  rw [hr] at hp
  obtain ⟨v,ct6,nvv,ns6,rfl,hv,x6,hrow,hnums⟩:=hp
  obtain ⟨av,nv,cv,rfl⟩:=blk_slice hv
  obtain ⟨ax,nx,cx,rfl⟩:=row_slice0 hrow
  have b6:Below (w.heap.size + 2) w2 w6:=b25.trans (x6.below (by omega) (by simp; omega))
  have y0:=below_block b6 (by omega) Z0.out
  have y1:=below_block b6 (by omega) Z1.out
  have k0:=cell_of y0 0 (v:=.slice none 0 0) rfl
  have f0:=frozen_of y0 0
  have k0':=cell_of y0 1 (v:=.int .i64 0) rfl
  have f0':=frozen_of y0 1
  have k2:=cell_of y0 2 (v:=.int .i64 0) rfl
  have f2:=frozen_of y0 2
  have k3:=cell_of y0 3 (v:=.slice none 0 0) rfl
  have f3:=frozen_of y0 3
  have v0:=heap_setCell_at (heap_setCell_at (heap_setCell_at (heap_setCell_at y0 0 (.slice av nv cv)) 1 (.int .i64 ct6.1)) 2 (.int .i64 ct6.2)) 3 (.slice ax nx cx)
  have v1:((((w6.setCell ⟨w.heap.size,0,none⟩ (.slice av nv cv)).setCell ⟨w.heap.size,1,none⟩ (.int .i64 ct6.1)).setCell ⟨w.heap.size,2,none⟩ (.int .i64 ct6.2)).setCell ⟨w.heap.size,3,none⟩ (.slice ax nx cx)).heap[w.heap.size + 1]?=some (.cells #[.nilIface] 23):=by
   rw [Below.heap_setCell _ _ _ _ (by show w.heap.size + 1 ≠ w.heap.size; omega),Below.heap_setCell _ _ _ _ (by show w.heap.size + 1 ≠ w.heap.size; omega),Below.heap_setCell _ _ _ _ (by show w.heap.size + 1 ≠ w.heap.size; omega),Below.heap_setCell _ _ _ _ (by show w.heap.size + 1 ≠ w.heap.size; omega)]; exact y1
  have k1:=cell_of v1 0 (v:=.nilIface) rfl
  have f1:=frozen_of v1 0
  have u1:=heap_setCell_at v1 0 .nilIface
  have u0:(((((w6.setCell ⟨w.heap.size,0,none⟩ (.slice av nv cv)).setCell ⟨w.heap.size,1,none⟩ (.int .i64 ct6.1)).setCell ⟨w.heap.size,2,none⟩ (.int .i64 ct6.2)).setCell ⟨w.heap.size,3,none⟩ (.slice ax nx cx)).setCell ⟨w.heap.size + 1,0,none⟩ .nilIface).heap[w.heap.size]?=some (.cells #[.slice av nv cv,.int .i64 ct6.1,.int .i64 ct6.2,.slice ax nx cx] 86):=by
   rw [Below.heap_setCell _ _ _ _ (by show w.heap.size ≠ w.heap.size + 1; omega)]; exact v0
  have q0:(((((w6.setCell ⟨w.heap.size,0,none⟩ (.slice av nv cv)).setCell ⟨w.heap.size,1,none⟩ (.int .i64 ct6.1)).setCell ⟨w.heap.size,2,none⟩ (.int .i64 ct6.2)).setCell ⟨w.heap.size,3,none⟩ (.slice ax nx cx)).setCell ⟨w.heap.size + 1,0,none⟩ .nilIface).cell? ⟨w.heap.size,0,none⟩=some (.slice av nv cv):=cell_of u0 0 rfl
  have q0':(((((w6.setCell ⟨w.heap.size,0,none⟩ (.slice av nv cv)).setCell ⟨w.heap.size,1,none⟩ (.int .i64 ct6.1)).setCell ⟨w.heap.size,2,none⟩ (.int .i64 ct6.2)).setCell ⟨w.heap.size,3,none⟩ (.slice ax nx cx)).setCell ⟨w.heap.size + 1,0,none⟩ .nilIface).cell? ⟨w.heap.size,1,none⟩=some (.int .i64 ct6.1):=cell_of u0 1 rfl
  have q2:(((((w6.setCell ⟨w.heap.size,0,none⟩ (.slice av nv cv)).setCell ⟨w.heap.size,1,none⟩ (.int .i64 ct6.1)).setCell ⟨w.heap.size,2,none⟩ (.int .i64 ct6.2)).setCell ⟨w.heap.size,3,none⟩ (.slice ax nx cx)).setCell ⟨w.heap.size + 1,0,none⟩ .nilIface).cell? ⟨w.heap.size,2,none⟩=some (.int .i64 ct6.2):=cell_of u0 2 rfl
  have q3:(((((w6.setCell ⟨w.heap.size,0,none⟩ (.slice av nv cv)).setCell ⟨w.heap.size,1,none⟩ (.int .i64 ct6.1)).setCell ⟨w.heap.size,2,none⟩ (.int .i64 ct6.2)).setCell ⟨w.heap.size,3,none⟩ (.slice ax nx cx)).setCell ⟨w.heap.size + 1,0,none⟩ .nilIface).cell? ⟨w.heap.size,3,none⟩=some (.slice ax nx cx):=cell_of u0 3 rfl
  have q1:(((((w6.setCell ⟨w.heap.size,0,none⟩ (.slice av nv cv)).setCell ⟨w.heap.size,1,none⟩ (.int .i64 ct6.1)).setCell ⟨w.heap.size,2,none⟩ (.int .i64 ct6.2)).setCell ⟨w.heap.size,3,none⟩ (.slice ax nx cx)).setCell ⟨w.heap.size + 1,0,none⟩ .nilIface).cell? ⟨w.heap.size + 1,0,none⟩=some .nilIface:=cell_of u1 0 rfl
  have b7:Below w.heap.size w (((((w6.setCell ⟨w.heap.size,0,none⟩ (.slice av nv cv)).setCell ⟨w.heap.size,1,none⟩ (.int .i64 ct6.1)).setCell ⟨w.heap.size,2,none⟩ (.int .i64 ct6.2)).setCell ⟨w.heap.size,3,none⟩ (.slice ax nx cx)).setCell ⟨w.heap.size + 1,0,none⟩ .nilIface) :=
   (((((hw2.trans (b6.mono (by omega))).setCell (p:=⟨w.heap.size,0,none⟩) (Nat.le_refl _) _).setCell (p:=⟨w.heap.size,1,none⟩) (Nat.le_refl _) _).setCell (p:=⟨w.heap.size,2,none⟩) (Nat.le_refl _) _).setCell (p:=⟨w.heap.size,3,none⟩) (Nat.le_refl _) _).setCell (p:=⟨w.heap.size + 1,0,none⟩) (Nat.le_succ _) _
  have HB:Blk Rt.T (0,0) w.heap.size (((((w6.setCell ⟨w.heap.size,0,none⟩ (.slice av nv cv)).setCell ⟨w.heap.size,1,none⟩ (.int .i64 ct6.1)).setCell ⟨w.heap.size,2,none⟩ (.int .i64 ct6.2)).setCell ⟨w.heap.size,3,none⟩ (.slice ax nx cx)).setCell ⟨w.heap.size + 1,0,none⟩ .nilIface).heap.size (((((w6.setCell ⟨w.heap.size,0,none⟩ (.slice av nv cv)).setCell ⟨w.heap.size,1,none⟩ (.int .i64 ct6.1)).setCell ⟨w.heap.size,2,none⟩ (.int .i64 ct6.2)).setCell ⟨w.heap.size,3,none⟩ (.slice ax nx cx)).setCell ⟨w.heap.size + 1,0,none⟩ .nilIface) (.slice av nv cv) xs ct6 :=
   Blk.mono Rt hv (by simp; omega) (by simp [World.setCell]) ((((((SameOn.refl _ _ _).setCell (p:=⟨w.heap.size,0,none⟩) (.inl (by show w.heap.size<(wc.alloc ob).heap.size; simp; omega)) _).setCell (p:=⟨w.heap.size,1,none⟩) (.inl (by show w.heap.size<(wc.alloc ob).heap.size; simp; omega)) _).setCell (p:=⟨w.heap.size,2,none⟩) (.inl (by show w.heap.size<(wc.alloc ob).heap.size; simp; omega)) _).setCell (p:=⟨w.heap.size,3,none⟩) (.inl (by show w.heap.size<(wc.alloc ob).heap.size; simp; omega)) _).setCell (p:=⟨w.heap.size + 1,0,none⟩) (.inl (by show w.heap.size + 1<(wc.alloc ob).heap.size; simp; omega)) _)
  have hnr:∀ k,NumB w6.heap[k]?→k ≠ w.heap.size∧k ≠ w.heap.size + 1:=fun k hk=>by
   constructor
   ·intro e; rw [e,y0] at hk; exact not_num (by decide) hk
   ·intro e; rw [e,y1] at hk; exact not_num (by decide) hk
  have HN:Hid ((((((w6.setCell ⟨w.heap.size,0,none⟩ (.slice av nv cv)).setCell ⟨w.heap.size,1,none⟩ (.int .i64 ct6.1)).setCell ⟨w.heap.size,2,none⟩ (.int .i64 ct6.2)).setCell ⟨w.heap.size,3,none⟩ (.slice ax nx cx)).setCell ⟨w.heap.size + 1,0,none⟩ .nilIface).ownsRow w.heap.size 226 1 (.slice ax nx cx) ns6.length (numVals ns6)∧Sp.Nums (Sp.skip s.data.toList) [] ns6):=by
   refine ⟨row_low (row_keep hrow (fun k _ _ hkn=>?_)) (by omega),hnums⟩
   obtain ⟨h1,h2⟩:=hnr k hkn
   rw [Below.heap_setCell _ _ _ _ h2,Below.heap_setCell _ _ _ _ h1,Below.heap_setCell _ _ _ _ h1,Below.heap_setCell _ _ _ _ h1,Below.heap_setCell _ _ _ _ h1]
  have Q0:Hid (_=_):=q0
  have Q0':Hid (_=_):=q0'
  have Q2:Hid (_=_):=q2
  have Q3:Hid (_=_):=q3
  have Q1:Hid (_=_):=q1
  have HB':Hid (Blk Rt.T (0,0) w.heap.size (((((w6.setCell ⟨w.heap.size,0,none⟩ (.slice av nv cv)).setCell ⟨w.heap.size,1,none⟩ (.int .i64 ct6.1)).setCell ⟨w.heap.size,2,none⟩ (.int .i64 ct6.2)).setCell ⟨w.heap.size,3,none⟩ (.slice ax nx cx)).setCell ⟨w.heap.size + 1,0,none⟩ .nilIface).heap.size (((((w6.setCell ⟨w.heap.size,0,none⟩ (.slice av nv cv)).setCell ⟨w.heap.size,1,none⟩ (.int .i64 ct6.1)).setCell ⟨w.heap.size,2,none⟩ (.int .i64 ct6.2)).setCell ⟨w.heap.size,3,none⟩ (.slice ax nx cx)).setCell ⟨w.heap.size + 1,0,none⟩ .nilIface) (.slice av nv cv) xs ct6):=HB
  have HR:Hid (Sp.pProg A (Sp.skip s.data.toList)=.ok xs):=hr
  clear q0 q0' q1 q2 q3 u0 u1 v0 v1 hv HB hr y0 y1 hnr hrow hnums
  go_wp2_with fail
  refine leaves_cons (f:=54) (args:=#[.pointer (some ⟨w.heap.size,0,none⟩),.pointer (some ⟨w.heap.size + 1,0,none⟩)]) (by simp) (by simp [go_sem]) ?_
  refine (catch_idle ⟨w.heap.size,0,none⟩ ⟨w.heap.size + 1,0,none⟩ _).mono ?_
  rintro e u' w7 ⟨rfl,rfl,rfl⟩
  clear k0 k0' k1 k2 k3 f0 f0' f1 f2 f3
  generalize ((((w6.setCell ⟨w.heap.size,0,none⟩ (.slice av nv cv)).setCell ⟨w.heap.size,1,none⟩ (.int .i64 ct6.1)).setCell ⟨w.heap.size,2,none⟩ (.int .i64 ct6.2)).setCell ⟨w.heap.size,3,none⟩ (.slice ax nx cx)).setCell ⟨w.heap.size + 1,0,none⟩ .nilIface=W at *
  have hfin:Sp.parse A s.data.toList=.ok xs:=by
   unfold Sp.parse
   rw [if_neg (by simp; omega),HR.out]
  simp [Leaves,settle,results,Tryz.results36,go_sem,Q0.out,Q0'.out,Q2.out,Q3.out,Q1.out]
  exact ProgPost.good hfin HB'.out b7 HN.out
theorem Program_calls {A:Sp.Alg} {Rp:Rep A} (Rt:RepT A Rp) (s:ByteArray) (w:World) (hs:s.size≤1048576) (hL:Laid w) :
  Calls Tryz.prog 36 #[.string s] w (ProgPost Rt s w (Sp.parse A s.data.toList)):=by
 by_cases h:s.size≤400
 ·exact Program_short Rt s w h hL
 ·refine (Program_long s w (by omega)).mono ?_
  rintro e w' ⟨rfl,hb⟩
  have hfin:Sp.parse A s.data.toList=.error (1,0):=by
   unfold Sp.parse
   rw [if_pos (by simp; omega)]
  exact ProgPost.bad hfin (.inl ⟨rfl,rfl⟩) hb
end Go.Proofs.YtiopfihjmkfdmaaGreatDoor
