import Derived.Test.YtiopfihjmkfdmaaGreatDoorX4
import Derived.Maps.AppendAt
namespace Go.Proofs.YtiopfihjmkfdmaaGreatDoor
open Go.RowKit
set_option maxRecDepth 100000
set_option maxHeartbeats 400000
def rdCells (s:ByteArray) (m1 m2:Nat) (l:Sp.Bs) (o:Nat) (ct:Int × Int) (nv:Value):Array Value :=
 #[.string s,.int .i64 ((s.size - l.length:Nat):Int),.int .i64 (Sp.tokKind l),.string ⟨(Sp.tok l).toArray⟩,.int .i64 o,.int .i64 ct.1,.int .i64 ct.2,nv,.map (some m1),.map (some m2)]
namespace Sp
def numsAt (l:Bs):List Nat:=if tokKind l=3 then [decimal (tok l)] else []
inductive Nums (a:Bs):Bs→List Nat→Prop
 | nil:Nums a a []
 | step {l:Bs} {ns:List Nat}:Nums a l ns→Nums a (next l) (ns ++ numsAt l)
theorem Nums.len {a l:Bs} {ns:List Nat} (h:Nums a l ns):ns.length + l.length≤a.length:=by
 induction h with
 | nil=>simp
 | @step l ns h ih =>
  unfold numsAt
  by_cases h3:tokKind l=3
  ·have:=next_lt (tokLen_pos (.inr (.inl h3)))
   rw [if_pos h3,List.length_append,List.length_singleton]; omega
  ·have:=next_le l
   rw [if_neg h3,List.append_nil]; omega
theorem Nums.step_none {a l:Bs} {ns:List Nat} (h:Nums a l ns) (h3:tokKind l ≠ 3):Nums a (next l) ns:=by
 have:=h.step
 rwa [numsAt,if_neg h3,List.append_nil] at this
theorem kind_of_tok {l t:Bs} (h:tok l=t) (hd:t.head?.any isDig=false):tokKind l ≠ 3:=by
 intro h3
 cases l with
 | nil=>simp [tokKind] at h3
 | cons c r =>
  rw [tokKind_cons] at h3
  by_cases h1:isLet c=true
  ·rw [if_pos h1] at h3; omega
  ·by_cases h2:isDig c=true
   ·rw [if_neg h1,if_pos h2] at h3
    have:tok (c :: r)=c :: r.take (headRun isDig r):=by
     unfold tok
     rw [tokLen_cons,if_neg h1,if_pos h2,headRun_cons,if_pos h2,List.take_succ_cons]
    rw [← h,this] at hd
    simp [h2] at hd
   ·rw [if_neg h1,if_neg h2] at h3
    split at h3 <;> omega
end Sp
def numVals (ns:List Nat):List Value:=ns.map fun n=>.int .i16 ((n:Nat):Int)
structure RdN (b:Nat) (s:ByteArray) (m1 m2:Nat) (l:Sp.Bs) (o:Nat) (ct:Int × Int) (nv:Value) (ns:List Nat) (w:World):Prop where
 blk:w.heap[b]?=some (.cells (rdCells s m1 m2 l o ct nv) 147)
 suf:l <:+ s.data.toList
 sz:s.size≤400
 row:w.ownsRow (b + 1) 226 1 nv ns.length (numVals ns)
def Rd (b:Nat) (s:ByteArray) (m1 m2:Nat) (l:Sp.Bs) (o:Nat) (ct:Int × Int) (w:World):Prop :=
 ∃ nv ns,RdN b s m1 m2 l o ct nv ns w∧Sp.Nums (Sp.skip s.data.toList) l ns
section
variable {b : Nat} {s : ByteArray} {m1 m2 : Nat} {l : Sp.Bs} {o : Nat} {ct : Int × Int} {nv : Value} {ns : List Nat} {w : World}
theorem RdN.len (h:RdN b s m1 m2 l o ct nv ns w):l.length≤s.size:=by
 have:=h.suf.length_le
 simpa using this
theorem RdN.lt (h:RdN b s m1 m2 l o ct nv ns w):b<w.heap.size:=heap_lt h.blk
theorem RdN.fz (h:RdN b s m1 m2 l o ct nv ns w) (i:Nat):w.frozen? ⟨b,i,none⟩=false:=frozen_of h.blk i
theorem Rd.suf (h:Rd b s m1 m2 l o ct w):l <:+ s.data.toList:=by obtain ⟨_,_,h,_⟩:=h; exact h.suf
theorem Rd.sz (h:Rd b s m1 m2 l o ct w):s.size≤400:=by obtain ⟨_,_,h,_⟩:=h; exact h.sz
theorem Rd.len (h:Rd b s m1 m2 l o ct w):l.length≤s.size:=by obtain ⟨_,_,h,_⟩:=h; exact h.len
theorem Rd.lt (h:Rd b s m1 m2 l o ct w):b<w.heap.size:=by obtain ⟨_,_,h,_⟩:=h; exact h.lt
theorem Rd.c0 (h:Rd b s m1 m2 l o ct w):w.cell? ⟨b,0,none⟩=some (.string s):=by obtain ⟨_,_,h,_⟩:=h; exact cell_of h.blk 0 rfl
theorem Rd.c1 (h:Rd b s m1 m2 l o ct w):w.cell? ⟨b,1,none⟩=some (.int .i64 ((s.size - l.length:Nat):Int)):=by obtain ⟨_,_,h,_⟩:=h; exact cell_of h.blk 1 rfl
theorem Rd.c2 (h:Rd b s m1 m2 l o ct w):w.cell? ⟨b,2,none⟩=some (.int .i64 (Sp.tokKind l)):=by obtain ⟨_,_,h,_⟩:=h; exact cell_of h.blk 2 rfl
theorem Rd.c3 (h:Rd b s m1 m2 l o ct w):w.cell? ⟨b,3,none⟩=some (.string ⟨(Sp.tok l).toArray⟩):=by obtain ⟨_,_,h,_⟩:=h; exact cell_of h.blk 3 rfl
theorem Rd.c4 (h:Rd b s m1 m2 l o ct w):w.cell? ⟨b,4,none⟩=some (.int .i64 o):=by obtain ⟨_,_,h,_⟩:=h; exact cell_of h.blk 4 rfl
theorem Rd.c5 (h:Rd b s m1 m2 l o ct w):w.cell? ⟨b,5,none⟩=some (.int .i64 ct.1):=by obtain ⟨_,_,h,_⟩:=h; exact cell_of h.blk 5 rfl
theorem Rd.c6 (h:Rd b s m1 m2 l o ct w):w.cell? ⟨b,6,none⟩=some (.int .i64 ct.2):=by obtain ⟨_,_,h,_⟩:=h; exact cell_of h.blk 6 rfl
theorem Rd.c7 (h:Rd b s m1 m2 l o ct w):w.cell? ⟨b,8,none⟩=some (.map (some m1)):=by obtain ⟨_,_,h,_⟩:=h; exact cell_of h.blk 8 rfl
theorem Rd.c8 (h:Rd b s m1 m2 l o ct w):w.cell? ⟨b,9,none⟩=some (.map (some m2)):=by obtain ⟨_,_,h,_⟩:=h; exact cell_of h.blk 9 rfl
theorem Rd.fz (h:Rd b s m1 m2 l o ct w) (i:Nat):w.frozen? ⟨b,i,none⟩=false:=by obtain ⟨_,_,h,_⟩:=h; exact h.fz i
theorem row_keep {w':World} {n:Nat} {vs:List Value} (h:w.ownsRow (b + 1) 226 1 nv n vs) (hn:∀ k,b<k→k<w.heap.size→NumB w.heap[k]?→w'.heap[k]?=w.heap[k]?):w'.ownsRow (b + 1) 226 1 nv n vs:=by
 obtain ⟨h1,h2⟩:=h
 refine ⟨h1,?_⟩
 rcases h2 with h2 | ⟨g,cap,cur,e,hb,hh,r⟩
 ·exact .inl h2
 ·exact .inr ⟨g,cap,cur,e,hb,by rw [hn g (by omega) (heap_lt hh) (by rw [hh]; exact ⟨_,_,rfl⟩)]; exact hh,r⟩
theorem RdN.keep {w':World} (h:RdN b s m1 m2 l o ct nv ns w) (hb:w'.heap[b]?=w.heap[b]?) (hn:∀ k,b<k→k<w.heap.size→NumB w.heap[k]?→w'.heap[k]?=w.heap[k]?):RdN b s m1 m2 l o ct nv ns w' :=
 ⟨by rw [hb]; exact h.blk,h.suf,h.sz,row_keep h.row hn⟩
theorem Rd.keep {w':World} (h:Rd b s m1 m2 l o ct w) (hb:w'.heap[b]?=w.heap[b]?) (hn:∀ k,b<k→k<w.heap.size→NumB w.heap[k]?→w'.heap[k]?=w.heap[k]?):Rd b s m1 m2 l o ct w':=by
 obtain ⟨nv,ns,h,hl⟩:=h
 exact ⟨nv,ns,h.keep hb hn,hl⟩
theorem RdN.own (h:RdN b s m1 m2 l o ct nv ns w) (i:Nat) (v:Value) {l':Sp.Bs} {o':Nat} {ct':Int × Int} (hs:l' <:+ s.data.toList) (e:(rdCells s m1 m2 l o ct nv).setIfInBounds i v=rdCells s m1 m2 l' o' ct' nv):RdN b s m1 m2 l' o' ct' nv ns (w.setCell ⟨b,i,none⟩ v) :=
 ⟨by rw [heap_setCell_at h.blk i v,e],hs,h.sz,row_keep h.row (fun k hk _ _=>Below.heap_setCell _ _ _ _ (by show k ≠ b; omega))⟩
end
def Faulty (s:ByteArray) (b:Nat) (w:World) (er:Nat × Nat) (e:Ending) (w':World):Prop :=
 ∃ N,e=.panicked [{ v:=.iface 90 (.pointer (some ⟨N,0,none⟩)),recovered:=false }]∧w'.heap[N]?=some (.cells #[.int .i64 ((s.size - er.2:Nat):Int),.int .i64 er.1] 96)∧Ext b w w'∧N ≠ b∧w.heap.size≤N
theorem Faulty.ahead {s:ByteArray} {b:Nat} {w w1:World} {er:Nat × Nat} {e:Ending} {w':World} (h:Ext b w w1) (k:Faulty s b w1 er e w'):Faulty s b w er e w':=by
 obtain ⟨N,h1,h2,h3,h4,h5⟩:=k
 exact ⟨N,h1,h2,h.trans h3,h4,Nat.le_trans h.size h5⟩
theorem fault_calls {b:Nat} {s:ByteArray} {m1 m2:Nat} {l:Sp.Bs} {o:Nat} {ct:Int × Int} {w:World} (h:Rd b s m1 m2 l o ct w) (er:Int) :
  Calls Tryz.prog 90 #[.pointer (some ⟨b,0,none⟩),.int .i64 er] w fun e w' =>
   e=.returned (.pointer (some ⟨w.heap.size,0,none⟩))∧w'=w.alloc (.cells #[.int .i64 ((s.size - l.length:Nat):Int),.int .i64 er] 96):=by
 have h1:=h.c1
 go_enter Tryz.func90,Tryz.ntmps90
 go_wp2
 go_ret
 exact ⟨rfl,rfl⟩
theorem faulty_of {b:Nat} {s:ByteArray} {m1 m2:Nat} {l:Sp.Bs} {o:Nat} {ct:Int × Int} {w:World} (h:Rd b s m1 m2 l o ct w) (er:Nat) (ei:Int) (he:ei=er) :
  Faulty s b w (er,l.length) (.panicked [{ v:=.iface 90 (.pointer (some ⟨w.heap.size,0,none⟩)),recovered:=false }]) (w.alloc (.cells #[.int .i64 ((s.size - l.length:Nat):Int),.int .i64 ei] 96)):=by
 subst he
 refine ⟨w.heap.size,rfl,heap_alloc_new _ _,(Ext.refl b w).alloc _,?_,Nat.le_refl _⟩
 have:=h.lt
 omega
theorem tok_ne_beq {l t:Sp.Bs} (h:Sp.tok l ≠ t):(Sp.tok l == t)=false:=by simpa using h
theorem need_ok {b:Nat} {s:ByteArray} {m1 m2:Nat} {l:Sp.Bs} {o:Nat} {ct:Int × Int} {w:World} (h:Rd b s m1 m2 l o ct w) (t:Sp.Bs) (ht:Sp.tok l=t) :
  Calls Tryz.prog 231 #[.pointer (some ⟨b,0,none⟩),.string ⟨t.toArray⟩] w fun e w'=>e=.returned (.tuple #[])∧w'=w:=by
 have h3:=h.c3
 subst ht
 go_enter Tryz.func231,Tryz.ntmps231
 go_wp2_with fail
 go_end0
 exact ⟨rfl,rfl⟩
theorem need_bad {b:Nat} {s:ByteArray} {m1 m2:Nat} {l:Sp.Bs} {o:Nat} {ct:Int × Int} {w:World} (h:Rd b s m1 m2 l o ct w) (t:Sp.Bs) (ht:Sp.tok l ≠ t) :
  Calls Tryz.prog 231 #[.pointer (some ⟨b,0,none⟩),.string ⟨t.toArray⟩] w fun e w'=>Faulty s b w (2,l.length) e w':=by
 have h3:=h.c3
 have hb:=tok_ne_beq ht
 go_enter Tryz.func231,Tryz.ntmps231
 go_wp2_with fail
 refine (fault_calls h 2).mono ?_
 rintro e w' ⟨rfl,rfl⟩
 go_wp2_with fail
 exact ⟨rfl,faulty_of h 2 2 rfl⟩
theorem RdN.drop_eq {b:Nat} {s:ByteArray} {m1 m2:Nat} {l:Sp.Bs} {o:Nat} {ct:Int × Int} {nv:Value} {ns:List Nat} {w:World} (h:RdN b s m1 m2 l o ct nv ns w):s.data.toList.drop (s.size - l.length + Sp.tokLen l)=l.drop (Sp.tokLen l):=by
 obtain ⟨p,hp⟩:=h.suf
 have hs:s.size=p.length + l.length:=by
  have:s.data.toList.length=s.size:=by simp
  rw [← this,← hp,List.length_append]
 rw [← hp,hs]
 rw [List.drop_append]
 rw [List.drop_of_length_le (by omega),List.nil_append]
 congr 1
 omega
theorem rd_at {b:Nat} {s:ByteArray} {m1 m2:Nat} {l:Sp.Bs} {o:Nat} {ct:Int × Int} {w w1:World} (h:Rd b s m1 m2 l o ct w) (hb:Below w.heap.size w w1):Rd b s m1 m2 l o ct w1 :=
 h.keep (hb.block b h.lt) (fun k _ hk _=>hb.block k hk)
theorem rdn_at {b:Nat} {s:ByteArray} {m1 m2:Nat} {l:Sp.Bs} {o:Nat} {ct:Int × Int} {nv:Value} {ns:List Nat} {w w1:World} (h:RdN b s m1 m2 l o ct nv ns w) (hb:Below w.heap.size w w1):RdN b s m1 m2 l o ct nv ns w1 :=
 h.keep (hb.block b h.lt) (fun k _ hk _=>hb.block k hk)
theorem rd_stored {b:Nat} {s:ByteArray} {m1 m2:Nat} {l:Sp.Bs} {o:Nat} {ct:Int × Int} {nv:Value} {ns:List Nat} {w w1:World} (h:RdN b s m1 m2 l o ct nv ns w) (hb:Below w.heap.size w w1) (l':Sp.Bs) (hl':l' <:+ s.data.toList) :
  RdN b s m1 m2 l' o ct nv ns (((w1.setCell ⟨b,1,none⟩ (.int .i64 ((s.size - l'.length:Nat):Int))).setCell ⟨b,2,none⟩ (.int .i64 (Sp.tokKind l'))).setCell ⟨b,3,none⟩ (.string ⟨(Sp.tok l').toArray⟩)) ∧
  Ext b w (((w1.setCell ⟨b,1,none⟩ (.int .i64 ((s.size - l'.length:Nat):Int))).setCell ⟨b,2,none⟩ (.int .i64 (Sp.tokKind l'))).setCell ⟨b,3,none⟩ (.string ⟨(Sp.tok l').toArray⟩)):=by
 have h1:=rdn_at h hb
 have x0:Ext b w w1:=Ext.of_below hb
 have x1:Ext b w (w1.setCell ⟨b,1,none⟩ (.int .i64 ((s.size - l'.length:Nat):Int))):=x0.setCell (p:=⟨b,1,none⟩) (.inl rfl) _
 have x2:=x1.setCell (p:=⟨b,2,none⟩) (.inl rfl) (.int .i64 (Sp.tokKind l'))
 have x3:=x2.setCell (p:=⟨b,3,none⟩) (.inl rfl) (.string ⟨(Sp.tok l').toArray⟩)
 refine ⟨⟨?_,hl',h.sz,?_⟩,x3⟩
 ·have e:=heap_setCell_at (heap_setCell_at (heap_setCell_at h1.blk 1 (.int .i64 ((s.size - l'.length:Nat):Int))) 2 (.int .i64 (Sp.tokKind l'))) 3 (.string ⟨(Sp.tok l').toArray⟩)
  rw [e]
  rfl
 ·refine row_keep h1.row (fun k hk _ _=>?_)
  rw [Below.heap_setCell _ _ _ _ (by show k ≠ b; omega),Below.heap_setCell _ _ _ _ (by show k ≠ b; omega),Below.heap_setCell _ _ _ _ (by show k ≠ b; omega)]
theorem below_undrew {w w1:World} (h:Below w.drew.heap.size w.drew w1):Below w.heap.size w w1:=⟨h.os,h.tape,h.output,h.size,h.block⟩
theorem rd_facts {b:Nat} {s:ByteArray} {m1 m2:Nat} {l:Sp.Bs} {o:Nat} {ct:Int × Int} {nv:Value} {ns:List Nat} {w w1:World} (h:RdN b s m1 m2 l o ct nv ns w) (hb:Below w.drew.heap.size w.drew w1) :
  w1.cell? ⟨b,1,none⟩=some (.int .i64 ((s.size - l.length:Nat):Int))∧w1.cell? ⟨b,2,none⟩=some (.int .i64 (Sp.tokKind l))∧w1.cell? ⟨b,3,none⟩=some (.string ⟨(Sp.tok l).toArray⟩)∧w1.frozen? ⟨b,1,none⟩=false∧w1.frozen? ⟨b,2,none⟩=false∧w1.frozen? ⟨b,3,none⟩=false:=by
 have h1:=rdn_at h (below_undrew hb)
 exact ⟨cell_of h1.blk 1 rfl,cell_of h1.blk 2 rfl,cell_of h1.blk 3 rfl,h1.fz 1,h1.fz 2,h1.fz 3⟩
theorem tokVal_eq (s:ByteArray) (l:Sp.Bs):Value.agg (tokVal s l)=.agg #[.int .i64 ((s.size - l.length:Nat):Int),.int .i64 (Sp.tokKind l),.string ⟨(Sp.tok l).toArray⟩]:=rfl
end Go.Proofs.YtiopfihjmkfdmaaGreatDoor
namespace Go.Proofs.YtiopfihjmkfdmaaGreatDoor
open Go.RowKit
set_option maxRecDepth 100000
set_option maxHeartbeats 4000000 in
theorem stepN_calls {b:Nat} {s:ByteArray} {m1 m2:Nat} {l:Sp.Bs} {o:Nat} {ct:Int × Int} {nv:Value} {ns:List Nat} {w:World} (h:RdN b s m1 m2 l o ct nv ns w) :
  Calls Tryz.prog 232 #[.pointer (some ⟨b,0,none⟩)] w fun e w'=>e=.returned (.tuple #[])∧RdN b s m1 m2 (Sp.next l) o ct nv ns w'∧Ext b w w':=by
 have h0:w.cell? ⟨b,0,none⟩=some (.string s):=cell_of h.blk 0 rfl
 have h1:w.cell? ⟨b,1,none⟩=some (.int .i64 ((s.size - l.length:Nat):Int)):=cell_of h.blk 1 rfl
 have h3:w.cell? ⟨b,3,none⟩=some (.string ⟨(Sp.tok l).toArray⟩):=cell_of h.blk 3 rfl
 have hlen:=h.len
 have hsz:=h.sz
 have htl:=Sp.tok_length l
 have hle:=Sp.tokLen_le l
 have ha:s.size - l.length + Sp.tokLen l≤s.size:=by omega
 have hwr:Hid (IntKind.i64.wrap (((s.size - l.length:Nat):Int) + ((Sp.tokLen l:Nat):Int))=((s.size - l.length + Sp.tokLen l:Nat):Int)):=by
  unfold Hid
  rw [IntWalk.i64_in _ (by omega)]
  omega
 have hd:Hid (Sp.skip (s.data.toList.drop (s.size - l.length + Sp.tokLen l))=Sp.next l):=by
  unfold Hid; rw [h.drop_eq]; rfl
 have hsuf:Sp.next l <:+ s.data.toList:=(Sp.next_suffix l).trans h.suf
 go_enter Tryz.func232,Tryz.ntmps232
 go_region_with (go_at_call 55; go_must (rw [hwr.out]); go_must (refine (scan_calls s _ _ ha hsz).mono ?_); go_must (rintro e w1 ⟨rfl,hb⟩); go_must (rw [hd.out,tokVal_eq]); obtain ⟨k1,k2,k3,f1,f2,f3⟩:=rd_facts h hb)
 all_goals
  go_end0
  exact ⟨rfl,rd_stored h (below_undrew hb) _ hsuf⟩
theorem step_calls {b:Nat} {s:ByteArray} {m1 m2:Nat} {l:Sp.Bs} {o:Nat} {ct:Int × Int} {w:World} (h:Rd b s m1 m2 l o ct w) (h3:Sp.tokKind l ≠ 3) :
  Calls Tryz.prog 232 #[.pointer (some ⟨b,0,none⟩)] w fun e w'=>e=.returned (.tuple #[])∧Rd b s m1 m2 (Sp.next l) o ct w'∧Ext b w w':=by
 obtain ⟨nv,ns,h,hl⟩:=h
 refine (stepN_calls h).mono ?_
 rintro e w' ⟨rfl,h1,x1⟩
 exact ⟨rfl,⟨nv,ns,h1,hl.step_none h3⟩,x1⟩
end Go.Proofs.YtiopfihjmkfdmaaGreatDoor
namespace Go.Proofs.YtiopfihjmkfdmaaGreatDoor
open Go.RowKit
set_option maxRecDepth 100000
set_option maxHeartbeats 400000
def decFrom (a:Nat) (t:Sp.Bs):Nat:=t.foldl (fun a c=>a * 10 + (c.toNat - 48)) a
theorem decFrom_ge:∀ (t:Sp.Bs) (a:Nat),a≤decFrom a t
 | [],_=>Nat.le_refl _
 | c :: r,a=>by
  have:=decFrom_ge r (a * 10 + (c.toNat - 48))
  have e:decFrom a (c :: r)=decFrom (a * 10 + (c.toNat - 48)) r:=rfl
  rw [e]; omega
theorem parseM (M:Nat) (hM:M<1844674407370955162):∀ (t:Sp.Bs) (a:Nat),a≤M→(∀ c ∈ t,Sp.isDig c=true)→Lib.parseUintM M a t=if decFrom a t≤M then .ok (decFrom a t) else .range
 | [],a,ha,_=>by
  have:decFrom a []=a:=rfl
  rw [this,if_pos ha]; rfl
 | c :: r,a,ha,hd=>by
  have hc:48≤c.toNat∧c.toNat≤57:=by
   have:=hd c (by simp)
   unfold Sp.isDig at this
   simpa using this
  have e:decFrom a (c :: r)=decFrom (a * 10 + (c.toNat - 48)) r:=rfl
  have h1:Lib.parseUintM M a (c :: r)=if 1844674407370955162≤a then .range else if M<a * 10 + (c.toNat - 48) then .range else Lib.parseUintM M (a * 10 + (c.toNat - 48)) r:=by
   show (if 48≤c.toNat∧c.toNat≤57 then _ else _)=_
   rw [if_pos hc]
  rw [h1,if_neg (by omega),e]
  by_cases hm:M<a * 10 + (c.toNat - 48)
  ·rw [if_pos hm,if_neg]
   have:=decFrom_ge r (a * 10 + (c.toNat - 48))
   omega
  ·rw [if_neg hm]
   exact parseM M hM r _ (by omega) (fun d hdm=>hd d (by simp [hdm]))
theorem parse_digits (t:Sp.Bs) (hne:t ≠ []) (hd:∀ c ∈ t,Sp.isDig c=true):Lib.parseIntB 16 t=if Sp.decimal t≤32767 then .ok ((Sp.decimal t:Nat):Int) else .range:=by
 cases t with
 | nil=>exact absurd rfl hne
 | cons c r =>
  have hc:48≤c.toNat∧c.toNat≤57:=by
   have:=hd c (by simp)
   unfold Sp.isDig at this
   simpa using this
  have h1:Lib.parseUintB 16 (c :: r)=if decFrom 0 (c :: r)≤65535 then .ok (decFrom 0 (c :: r)) else .range:=by
   unfold Lib.parseUintB
   rw [if_neg (by simp)]
   exact parseM 65535 (by omega) (c :: r) 0 (by omega) hd
  have e0:Sp.decimal (c :: r)=decFrom 0 (c :: r):=rfl
  unfold Lib.parseIntB
  simp only
  rw [if_neg (by omega),h1,e0]
  by_cases h2:decFrom 0 (c :: r)≤65535
  ·rw [if_pos h2]
   simp only
   by_cases h3:decFrom 0 (c :: r)≤32767
   ·rw [if_neg (by simp; omega),if_neg (by omega),if_neg (by omega),if_pos h3]
   ·rw [if_pos (by simp; omega),if_neg h3]
  ·rw [if_neg h2,if_neg (by omega)]
theorem takeWhile_all (p:UInt8→Bool):∀ (l:Sp.Bs),∀ c ∈ l.takeWhile p,p c=true
 | [],c,h=>by simp at h
 | d :: r,c,h=>by
  rw [List.takeWhile_cons] at h
  split at h
  ·rename_i hd
   rcases List.mem_cons.1 h with rfl | h
   ·exact hd
   ·exact takeWhile_all p r c h
  ·simp at h
theorem take_headRun (p:UInt8→Bool) (l:Sp.Bs):l.take (Sp.headRun p l)=l.takeWhile p:=by
 unfold Sp.headRun
 exact (List.prefix_iff_eq_take.1 (List.takeWhile_prefix p)).symm
theorem digits_of_kind {l:Sp.Bs} (h:Sp.tokKind l=3):Sp.tok l ≠ []∧∀ c ∈ Sp.tok l,Sp.isDig c=true:=by
 refine ⟨fun e=>?_,?_⟩
 ·have:=Sp.tokLen_pos (l:=l) (.inr (.inl h))
  rw [← Sp.tok_length,e] at this
  simp at this
 ·cases l with
  | nil=>simp [Sp.tokKind] at h
  | cons c r =>
   have hk:=Sp.tokKind_cons c r
   have hl:=Sp.tokLen_cons c r
   by_cases h1:Sp.isLet c=true
   ·rw [h,if_pos h1] at hk; omega
   ·by_cases h2:Sp.isDig c=true
    ·rw [if_neg h1,if_pos h2] at hl
     unfold Sp.tok
     rw [hl,take_headRun]
     exact takeWhile_all _ _
    ·rw [h,if_neg h1,if_neg h2] at hk
     split at hk <;> omega
theorem size_of (t:Sp.Bs):(⟨t.toArray⟩:ByteArray).size=t.length:=by simp [ByteArray.size]
theorem parseInt_ok (t:Sp.Bs) (hne:t ≠ []) (hd:∀ c ∈ t,Sp.isDig c=true) (hl:t.length≤400) (hv:Sp.decimal t≤32767) (w:World) :
  Calls Tryz.prog 260 #[.string ⟨t.toArray⟩,.int .i64 10,.int .i64 16] w fun e w'=>e=.returned (.tuple #[.int .i64 ((Sp.decimal t:Nat):Int),.nilIface])∧Below w.heap.size w w':=by
 have hp:=parse_digits t hne hd
 rw [if_pos hv] at hp
 refine (Tryz.strconv_ParseInt_10_at16_ok ⟨t.toArray⟩ (by rw [size_of]; omega) ((Sp.decimal t:Nat):Int) (by simpa using hp) w).mono ?_
 rintro e w' ⟨rfl,h⟩
 refine ⟨rfl,?_⟩
 rcases h with rfl | ⟨u,rfl⟩
 ·exact Below.refl _ _
 ·exact Lib.bytesWorld_below _ _ _
theorem parseInt_range (t:Sp.Bs) (hne:t ≠ []) (hd:∀ c ∈ t,Sp.isDig c=true) (hl:t.length≤400) (hv:¬ Sp.decimal t≤32767) (w:World) (hL:Laid w) :
  Calls Tryz.prog 260 #[.string ⟨t.toArray⟩,.int .i64 10,.int .i64 16] w fun e w'=>∃ (n:Int) (N:Nat),e=.returned (.tuple #[.int .i64 n,.iface 436 (.pointer (some ⟨N,0,none⟩))])∧Below w.heap.size w w':=by
 have hp:=parse_digits t hne hd
 rw [if_neg hv] at hp
 obtain ⟨tp,p,hc⟩:=hL.errR
 refine (Tryz.strconv_ParseInt_10_at16_range ⟨t.toArray⟩ (by rw [size_of]; omega) (by simpa using hp) (.iface tp p) w hc (.inr ⟨tp,p,rfl⟩)).mono ?_
 rintro e w' ⟨N,rfl,_,_,hb⟩
 exact ⟨_,N,rfl,hb⟩
theorem Laid.below {w w':World} (h:Laid w) {B:Nat} (hb:Below B w w') (hB:11≤B):Laid w':=by
 have:=h.size
 have:=hb.size
 refine ⟨by omega,fun k hk=>?_,fun k hk=>?_,?_,?_,?_⟩
 ·rw [hb.cell (by show 1<B; omega)]; exact h.ops k hk
 ·rw [hb.cell (by show 2<B; omega)]; exact h.rels k hk
 ·rw [hb.cell (by show 9<B; omega)]; exact h.errS
 ·rw [hb.cell (by show 10<B; omega)]; exact h.errR
 ·exact var?_below hb (g:=6) (by kernel_rfl) (by omega) h.pow
theorem number_text {l:Sp.Bs} (hk:Sp.tokKind l=3) (hlen:l.length≤400):∃ t:ByteArray,t=⟨(Sp.tok l).toArray⟩∧t.size=(Sp.tok l).length∧0<t.size∧(Sp.tok l).length≤400∧∀ hh:0<t.size,((Sp.tok l).head?=some 48 ↔ (t[0].toNat:Int)=48):=by
 obtain ⟨hne,_⟩:=digits_of_kind hk
 refine ⟨⟨(Sp.tok l).toArray⟩,rfl,size_of _,?_,?_,?_⟩
 ·rw [size_of]; exact List.length_pos_iff.2 hne
 ·have:=Sp.tok_length l; have:=Sp.tokLen_le l; omega
 ·intro hh
  have e:(Sp.tok l).head?=some ((⟨(Sp.tok l).toArray⟩:ByteArray)[0]):=by
   have:=byte_at ⟨(Sp.tok l).toArray⟩ 0 hh
   simp at this
   rw [List.head?_eq_getElem?]; exact this
  rw [e]
  generalize (⟨(Sp.tok l).toArray⟩:ByteArray)[0]=c
  constructor
  ·intro h
   cases h; rfl
  ·intro h
   congr 1
   apply UInt8.toNat_inj.1
   show c.toNat=48
   omega
theorem numVal_some {t:Sp.Bs} {v:Nat} (hv:Sp.numVal t=some v):¬ (1<t.length∧t.head?=some 48)∧Sp.decimal t≤32767∧v=Sp.decimal t:=by
 unfold Sp.numVal at hv
 split at hv
 ·cases hv
 ·rename_i hn
  split at hv
  ·rename_i hle
   cases hv; exact ⟨hn,hle,rfl⟩
  ·cases hv
theorem numVal_none {t:Sp.Bs} (hv:Sp.numVal t=none):¬ Sp.decimal t≤32767∨(Sp.decimal t≤32767∧1<t.length∧t.head?=some 48):=by
 unfold Sp.numVal at hv
 split at hv
 ·rename_i hn
  by_cases h:Sp.decimal t≤32767
  ·exact .inr ⟨h,hn⟩
  ·exact .inl h
 ·split at hv
  ·cases hv
  ·rename_i h; exact .inl h
theorem infoNumber:(Tryz.prog.info? 226).map (fun i=>(i.zero,i.size,i.bytes))=some (some (.int .i16 0),1,2):=by kernel_rfl
theorem row_slice {w:World} {base:Nat} {e:TypeId} {v:Value} {n:Nat} {vs:List Value} (h:w.ownsRow base e 1 v (n + 1) vs):∃ g cap,v=.slice (some ⟨g,0,none⟩) (n + 1) cap:=by
 rcases h.2 with ⟨_,h⟩ | ⟨g,cap,cur,rfl,_⟩
 ·omega
 ·exact ⟨g,cap,rfl⟩
theorem rd_more {b:Nat} {s:ByteArray} {m1 m2:Nat} {l:Sp.Bs} {o:Nat} {ct:Int × Int} {nv:Value} {ns:List Nat} {w w3:World} {ob:Obj} (h:RdN b s m1 m2 l o ct nv ns w) (d:Nat) (v':Value)
  (hown:w3.ownsRow (b + 1) 226 1 v' (ns.length + 1) (numVals ns ++ [.int .i16 ((d:Nat):Int)])) (hg:(w.alloc ob).grownBy w3 nv.ownBlock) :
  w3.heap[b]?=some (.cells (rdCells s m1 m2 l o ct nv) 147)∧RdN b s m1 m2 l o ct v' (ns ++ [d]) (w3.setCell ⟨b,7,none⟩ v')∧Ext b w (w3.setCell ⟨b,7,none⟩ v'):=by
 have hnv:∀ k,nv.ownBlock=some k→b<k∧NumB w.heap[k]?:=by
  intro k hk
  rcases h.row.2 with ⟨rfl,_⟩ | ⟨g',cap,cur,rfl,hb,hh,_⟩
  ·simp [Value.ownBlock] at hk
  ·simp [Value.ownBlock] at hk
   subst hk
   exact ⟨hb,by rw [hh]; exact ⟨_,_,rfl⟩⟩
 have hlt:=h.lt
 have hs:w.heap.size + 1≤w3.heap.size:=by have:=hg.size; simpa using this
 have hbk:∀ k,k<w.heap.size→nv.ownBlock ≠ some k→w3.heap[k]?=w.heap[k]?:=fun k hk hne=>by
  rw [hg.block k (by simp; omega) (fun e=>hne e.symm)]; exact Below.heap_alloc _ _ _ hk
 have e:w3.heap[b]?=some (.cells (rdCells s m1 m2 l o ct nv) 147):=by
  rw [hbk b hlt (fun e=>by have:=(hnv b e).1; omega)]; exact h.blk
 refine ⟨e,⟨?_,h.suf,h.sz,?_⟩,⟨hg.os,hg.tape,hg.output,by simp [World.setCell]; omega,fun k hk hb hn=>?_⟩⟩
 ·rw [heap_setCell_at e 7 v']; rfl
 ·have:=row_keep (b:=b) (w':=w3.setCell ⟨b,7,none⟩ v') hown (fun k hk _ _=>Below.heap_setCell _ _ _ _ (by show k ≠ b; omega))
  rw [List.length_append,List.length_singleton]
  unfold numVals at *
  rw [List.map_append]
  exact this
 ·rw [Below.heap_setCell _ _ _ _ (by show k ≠ b; exact hb)]
  exact hbk k hk (fun e=>hn (hnv k e).1 (hnv k e).2)
theorem number_ok {b:Nat} {s:ByteArray} {m1 m2:Nat} {l:Sp.Bs} {o:Nat} {ct:Int × Int} {w:World} (h:Rd b s m1 m2 l o ct w) (hk:Sp.tokKind l=3) {v:Nat} (hv:Sp.numVal (Sp.tok l)=some v) :
  Calls Tryz.prog 252 #[.pointer (some ⟨b,0,none⟩)] w fun e w'=>e=.returned (.int .i16 v)∧Rd b s m1 m2 (Sp.next l) o ct w'∧Ext b w w':=by
 obtain ⟨nv,ns,h,hl⟩:=h
 obtain ⟨i0,hi,hz0,hz1,hz2⟩:=info_parts infoNumber
 obtain ⟨hne,hd⟩:=digits_of_kind hk
 obtain ⟨hn,hle,rfl⟩:=numVal_some hv
 obtain ⟨t,et,hsz,h0,hlen,hx⟩:=number_text hk (by have:=h.len; have:=h.sz; omega)
 have hx:=hx h0
 have h3:w.cell? ⟨b,3,none⟩=some (.string t):=by rw [et]; exact cell_of h.blk 3 rfl
 have HP:Hid (∀ w:World,Calls Tryz.prog 260 #[.string t,.int .i64 10,.int .i64 16] w fun e w'=>e=.returned (.tuple #[.int .i64 ((Sp.decimal (Sp.tok l):Nat):Int),.nilIface])∧Below w.heap.size w w'):=by
  rw [et]; exact parseInt_ok (Sp.tok l) hne hd hlen hle
 have HL:Hid (Sp.Nums (Sp.skip s.data.toList) (Sp.next l) (ns ++ [Sp.decimal (Sp.tok l)])):=by
  have:=hl.step
  rwa [Sp.numsAt,if_pos hk] at this
 have hns:ns.length≤400:=by
  have h1:=hl.len
  have h2:=Sp.skip_le s.data.toList
  have h3:=h.sz
  have:s.data.toList.length=s.size:=by simp
  omega
 clear hl
 generalize Sp.decimal (Sp.tok l)=d at *
 by_cases h1:1<t.size
 ·have h48:¬ ((t[0].toNat:Int)=48):=fun e=>hn ⟨by omega,hx.2 e⟩
  have b48:((t[0].toNat:Int) == 48)=false:=by simpa using h48
  clear hx hn hsz hd hne hk hv et
  go_enter Tryz.func252,Tryz.ntmps252
  go_wp2_with fail
  refine (HP.out _).mono ?_
  rintro e w1 ⟨rfl,hb⟩
  go_wp2_with fail
  refine (stepN_calls (rdn_at h hb)).mono ?_
  rintro e w2 ⟨rfl,h2,x2⟩
  have c7:w2.cell? ⟨b,7,none⟩=some nv:=cell_of h2.blk 7 rfl
  have hlt2:=h2.lt
  go_wp2_with (first
   | (at_builtin; refine wpList_append_own_at _ rfl _ _ 84 rfl (b + 1) 226 i0 (.int .i16 0) 1 2 Tryz.underlying84 hi hz0 hz1 hz2 rfl (by decide) nv ns.length (numVals ns) rfl (h2.row.alloc _) ⟨w2.heap.size,0,none⟩ 1 1 [.int .i16 (d:Nat)] rfl rfl (cell_one_new _ _ _) ?q1 ?q2 ?q3 ?q4 ?_))
  case q1=>intro u hu; simp at hu; subst hu; rfl
  case q2=>unfold maxLen; omega
  case q3=>omega
  case q4=>simp; omega
  intro v' w3 hown3 hgrow3 _ _
  obtain ⟨g3,cap3,rfl⟩:=row_slice hown3
  obtain ⟨hb3,hr3,x3⟩:=rd_more h2 d _ hown3 hgrow3
  have c3:w3.cell? ⟨b,7,none⟩=some nv:=cell_of hb3 7 rfl
  have f3:=frozen_of hb3 7
  have H3:Hid (RdN b s m1 m2 (Sp.next l) o ct _ (ns ++ [d]) (w3.setCell ⟨b,7,none⟩ (.slice (some ⟨g3,0,none⟩) (ns.length + 1) cap3))∧Ext b w2 (w3.setCell ⟨b,7,none⟩ (.slice (some ⟨g3,0,none⟩) (ns.length + 1) cap3))):=⟨hr3,x3⟩
  clear hr3 x3 hb3 hown3 hgrow3
  go_wp2_with fail
  go_ret
  exact ⟨rfl,⟨_,_,H3.out.1,HL.out⟩,((Ext.of_below hb).trans x2).trans H3.out.2⟩
 ·have h1':¬ (1:Int)<(t.size:Int):=by omega
  clear hx hn hsz hd hne hk hv et
  go_enter Tryz.func252,Tryz.ntmps252
  go_wp2_with fail
  refine (HP.out _).mono ?_
  rintro e w1 ⟨rfl,hb⟩
  go_wp2_with fail
  refine (stepN_calls (rdn_at h hb)).mono ?_
  rintro e w2 ⟨rfl,h2,x2⟩
  have c7:w2.cell? ⟨b,7,none⟩=some nv:=cell_of h2.blk 7 rfl
  have hlt2:=h2.lt
  go_wp2_with (first
   | (at_builtin; refine wpList_append_own_at _ rfl _ _ 84 rfl (b + 1) 226 i0 (.int .i16 0) 1 2 Tryz.underlying84 hi hz0 hz1 hz2 rfl (by decide) nv ns.length (numVals ns) rfl (h2.row.alloc _) ⟨w2.heap.size,0,none⟩ 1 1 [.int .i16 (d:Nat)] rfl rfl (cell_one_new _ _ _) ?q1 ?q2 ?q3 ?q4 ?_))
  case q1=>intro u hu; simp at hu; subst hu; rfl
  case q2=>unfold maxLen; omega
  case q3=>omega
  case q4=>simp; omega
  intro v' w3 hown3 hgrow3 _ _
  obtain ⟨g3,cap3,rfl⟩:=row_slice hown3
  obtain ⟨hb3,hr3,x3⟩:=rd_more h2 d _ hown3 hgrow3
  have c3:w3.cell? ⟨b,7,none⟩=some nv:=cell_of hb3 7 rfl
  have f3:=frozen_of hb3 7
  have H3:Hid (RdN b s m1 m2 (Sp.next l) o ct _ (ns ++ [d]) (w3.setCell ⟨b,7,none⟩ (.slice (some ⟨g3,0,none⟩) (ns.length + 1) cap3))∧Ext b w2 (w3.setCell ⟨b,7,none⟩ (.slice (some ⟨g3,0,none⟩) (ns.length + 1) cap3))):=⟨hr3,x3⟩
  clear hr3 x3 hb3 hown3 hgrow3
  go_wp2_with fail
  go_ret
  exact ⟨rfl,⟨_,_,H3.out.1,HL.out⟩,((Ext.of_below hb).trans x2).trans H3.out.2⟩
theorem number_bad {b:Nat} {s:ByteArray} {m1 m2:Nat} {l:Sp.Bs} {o:Nat} {ct:Int × Int} {w:World} (h:Rd b s m1 m2 l o ct w) (hL:Laid w) (hk:Sp.tokKind l=3) (hv:Sp.numVal (Sp.tok l)=none) :
  Calls Tryz.prog 252 #[.pointer (some ⟨b,0,none⟩)] w fun e w'=>Faulty s b w (2,l.length) e w':=by
 obtain ⟨hne,hd⟩:=digits_of_kind hk
 obtain ⟨t,et,hsz,h0,hlen,hx⟩:=number_text hk (by have:=h.len; have:=h.sz; omega)
 have hx:=hx h0
 have h3:w.cell? ⟨b,3,none⟩=some (.string t):=by rw [h.c3,et]
 rcases numVal_none hv with hle | ⟨hle,h1,h48⟩
 ·have HP:Hid (Calls Tryz.prog 260 #[.string t,.int .i64 10,.int .i64 16] w fun e w'=>∃ (n:Int) (N:Nat),e=.returned (.tuple #[.int .i64 n,.iface 436 (.pointer (some ⟨N,0,none⟩))])∧Below w.heap.size w w'):=by
   rw [et]; exact parseInt_range (Sp.tok l) hne hd hlen hle w hL
  clear hx hsz hd hne hk hv et hle
  go_enter Tryz.func252,Tryz.ntmps252
  go_wp2_with fail
  refine (HP.out).mono ?_
  rintro e w1 ⟨n,N,rfl,hb⟩
  go_wp2_with fail
  refine (fault_calls (rd_at h hb) 2).mono ?_
  rintro e w' ⟨rfl,rfl⟩
  go_wp2_with fail
  exact ⟨rfl,Faulty.ahead (Ext.of_below hb) (faulty_of (rd_at h hb) 2 2 rfl)⟩
 ·have HP:Hid (∀ w:World,Calls Tryz.prog 260 #[.string t,.int .i64 10,.int .i64 16] w fun e w'=>e=.returned (.tuple #[.int .i64 ((Sp.decimal (Sp.tok l):Nat):Int),.nilIface])∧Below w.heap.size w w'):=by
   rw [et]; exact parseInt_ok (Sp.tok l) hne hd hlen hle
  generalize Sp.decimal (Sp.tok l)=d at *
  have h1':1<t.size:=by omega
  have e48:(t[0].toNat:Int)=48:=hx.1 h48
  have b48:((t[0].toNat:Int) == 48)=true:=by simpa using e48
  clear hx hsz hd hne hk hv et h1 h48 e48
  go_enter Tryz.func252,Tryz.ntmps252
  go_wp2_with fail
  refine (HP.out _).mono ?_
  rintro e w1 ⟨rfl,hb⟩
  go_wp2_with fail
  refine (fault_calls (rd_at h hb) 2).mono ?_
  rintro e w' ⟨rfl,rfl⟩
  go_wp2_with fail
  exact ⟨rfl,Faulty.ahead (Ext.of_below hb) (faulty_of (rd_at h hb) 2 2 rfl)⟩
end Go.Proofs.YtiopfihjmkfdmaaGreatDoor
namespace Go.Proofs.YtiopfihjmkfdmaaGreatDoor
open Go.RowKit
set_option maxRecDepth 100000
set_option maxHeartbeats 400000
theorem take_ok {b:Nat} {s:ByteArray} {m1 m2:Nat} {l:Sp.Bs} {o:Nat} {ct:Int × Int} {w:World} (h:Rd b s m1 m2 l o ct w) (t:Sp.Bs) (ht:Sp.tok l=t) (hd:t.head?.any Sp.isDig=false:=by decide) :
  Calls Tryz.prog 202 #[.pointer (some ⟨b,0,none⟩),.string ⟨t.toArray⟩] w fun e w'=>e=.returned (.tuple #[])∧Rd b s m1 m2 (Sp.next l) o ct w'∧Ext b w w':=by
 go_enter Tryz.func202,Tryz.ntmps202
 go_wp2_with fail
 refine (need_ok h t ht).mono ?_
 rintro e w' ⟨rfl,rfl⟩
 go_wp2_with fail
 refine (step_calls h (Sp.kind_of_tok ht hd)).mono ?_
 rintro e w' ⟨rfl,h1,x1⟩
 go_wp2_with fail
 go_end0
 exact ⟨rfl,h1,x1⟩
theorem take_bad {b:Nat} {s:ByteArray} {m1 m2:Nat} {l:Sp.Bs} {o:Nat} {ct:Int × Int} {w:World} (h:Rd b s m1 m2 l o ct w) (t:Sp.Bs) (ht:Sp.tok l ≠ t) :
  Calls Tryz.prog 202 #[.pointer (some ⟨b,0,none⟩),.string ⟨t.toArray⟩] w fun e w'=>Faulty s b w (2,l.length) e w':=by
 go_enter Tryz.func202,Tryz.ntmps202
 go_wp2_with fail
 refine (need_bad h t ht).mono ?_
 rintro e w' hf
 obtain ⟨N,rfl,hr⟩:=hf
 exact ⟨rfl,N,rfl,hr⟩
theorem rd_open {b:Nat} {s:ByteArray} {m1 m2:Nat} {l:Sp.Bs} {o:Nat} {ct:Int × Int} {w:World} (h:Rd b s m1 m2 l o ct w) (o':Nat) (oi:Int) (ho:oi=o') :
  Rd b s m1 m2 l o' ct (w.setCell ⟨b,4,none⟩ (.int .i64 oi))∧Ext b w (w.setCell ⟨b,4,none⟩ (.int .i64 oi)):=by
 subst ho
 obtain ⟨nv,ns,h,hl⟩:=h
 exact ⟨⟨nv,ns,h.own 4 (.int .i64 o') h.suf rfl,hl⟩,(Ext.refl b w).setCell (p:=⟨b,4,none⟩) (.inl rfl) _⟩
theorem enter_bad {b:Nat} {s:ByteArray} {m1 m2:Nat} {l:Sp.Bs} {o:Nat} {ct:Int × Int} {w:World} (h:Rd b s m1 m2 l o ct w) (t:Sp.Bs) (ht:Sp.tok l ≠ t) :
  Calls Tryz.prog 233 #[.pointer (some ⟨b,0,none⟩),.string ⟨t.toArray⟩] w fun e w'=>Faulty s b w (2,l.length) e w':=by
 go_enter Tryz.func233,Tryz.ntmps233
 go_wp2_with fail
 refine (need_bad h t ht).mono ?_
 rintro e w' hf
 obtain ⟨N,rfl,hr⟩:=hf
 exact ⟨rfl,N,rfl,hr⟩
theorem enter_deep {b:Nat} {s:ByteArray} {m1 m2:Nat} {l:Sp.Bs} {ct:Int × Int} {w:World} (h:Rd b s m1 m2 l 12 ct w) (t:Sp.Bs) (ht:Sp.tok l=t) :
  Calls Tryz.prog 233 #[.pointer (some ⟨b,0,none⟩),.string ⟨t.toArray⟩] w fun e w'=>Faulty s b w (3,l.length) e w':=by
 have h4:w.cell? ⟨b,4,none⟩=some (.int .i64 12):=h.c4
 go_enter Tryz.func233,Tryz.ntmps233
 go_wp2_with fail
 refine (need_ok h t ht).mono ?_
 rintro e w' ⟨rfl,rfl⟩
 go_wp2_with fail
 refine (fault_calls h 3).mono ?_
 rintro e w' ⟨rfl,rfl⟩
 go_wp2_with fail
 exact ⟨rfl,faulty_of h 3 3 rfl⟩
theorem enter_ok {b:Nat} {s:ByteArray} {m1 m2:Nat} {l:Sp.Bs} {o:Nat} {ct:Int × Int} {w:World} (h:Rd b s m1 m2 l o ct w) (ho:o<12) (t:Sp.Bs) (ht:Sp.tok l=t) (hd:t.head?.any Sp.isDig=false:=by decide) :
  Calls Tryz.prog 233 #[.pointer (some ⟨b,0,none⟩),.string ⟨t.toArray⟩] w fun e w'=>e=.returned (.tuple #[])∧Rd b s m1 m2 (Sp.next l) (o + 1) ct w'∧Ext b w w':=by
 have h4:=h.c4
 have f4:=h.fz 4
 have hne:((o:Int) == 12)=false:=by simp; omega
 have hr:=rd_open h (o + 1) ((o:Int) + 1) (by omega)
 obtain ⟨h1,x1⟩:=hr
 have H1:Hid (Rd b s m1 m2 l (o + 1) ct (w.setCell ⟨b,4,none⟩ (.int .i64 ((o:Int) + 1)))):=h1
 clear h1
 go_enter Tryz.func233,Tryz.ntmps233
 go_wp2_with fail
 refine (need_ok h t ht).mono ?_
 rintro e w' ⟨rfl,rfl⟩
 go_wp2_with fail
 refine (step_calls H1.out (Sp.kind_of_tok ht hd)).mono ?_
 rintro e w' ⟨rfl,h2,x2⟩
 go_wp2_with fail
 go_end0
 exact ⟨rfl,h2,x1.trans x2⟩
theorem rd_point {b:Nat} {s:ByteArray} {m1 m2:Nat} {l:Sp.Bs} {o:Nat} {ct:Int × Int} {w:World} (h:Rd b s m1 m2 l o ct w) (p:Int) :
  Rd b s m1 m2 l o (p,ct.2) (w.setCell ⟨b,5,none⟩ (.int .i64 p))∧Ext b w (w.setCell ⟨b,5,none⟩ (.int .i64 p)):=by
 obtain ⟨nv,ns,h,hl⟩:=h
 exact ⟨⟨nv,ns,h.own 5 (.int .i64 p) h.suf rfl,hl⟩,(Ext.refl b w).setCell (p:=⟨b,5,none⟩) (.inl rfl) _⟩
theorem rd_site {b:Nat} {s:ByteArray} {m1 m2:Nat} {l:Sp.Bs} {o:Nat} {ct:Int × Int} {w:World} (h:Rd b s m1 m2 l o ct w) (q:Int) :
  Rd b s m1 m2 l o (ct.1,q) (w.setCell ⟨b,6,none⟩ (.int .i64 q))∧Ext b w (w.setCell ⟨b,6,none⟩ (.int .i64 q)):=by
 obtain ⟨nv,ns,h,hl⟩:=h
 exact ⟨⟨nv,ns,h.own 6 (.int .i64 q) h.suf rfl,hl⟩,(Ext.refl b w).setCell (p:=⟨b,6,none⟩) (.inl rfl) _⟩
theorem site_calls {b:Nat} {s:ByteArray} {m1 m2:Nat} {l:Sp.Bs} {o:Nat} {ct:Int × Int} {w:World} (h:Rd b s m1 m2 l o ct w) :
  Calls Tryz.prog 204 #[.pointer (some ⟨b,0,none⟩)] w fun e w'=>e=.returned (.int .i64 ct.2)∧Rd b s m1 m2 l o (ct.1,RowKit.wrap64 (ct.2 + 1)) w'∧Ext b w w':=by
 have h6:=h.c6
 have f6:=h.fz 6
 obtain ⟨h1,x1⟩:=rd_site h (RowKit.wrap64 (ct.2 + 1))
 have H1:Hid (Rd b s m1 m2 l o (ct.1,RowKit.wrap64 (ct.2 + 1)) (w.setCell ⟨b,6,none⟩ (.int .i64 (RowKit.wrap64 (ct.2 + 1))))):=h1
 clear h1
 go_enter Tryz.func204,Tryz.ntmps204
 go_wp2_with fail
 go_ret
 exact ⟨rfl,H1.out,x1⟩
theorem nameVal_some {l:Sp.Bs} {k:Nat} (h:Sp.nameVal l=some k):∃ c:UInt8,Sp.tok l=[c]∧Sp.tokKind l=2∧c.toNat<105∧97≤c.toNat∧k=c.toNat - 97:=by
 unfold Sp.nameVal at h
 split at h
 ·rename_i c e
  split at h
  ·rename_i hc
   cases h
   refine ⟨c,e,hc.1,hc.2,?_,rfl⟩
   cases l with
   | nil=>simp [Sp.tokKind] at hc
   | cons d r =>
    rw [Sp.tokKind_cons] at hc
    have hd:Sp.isLet d=true:=by
     by_cases hd:Sp.isLet d=true
     ·exact hd
     ·simp [hd] at hc
      split at hc
      ·omega
      ·split at hc <;> omega
    have:Sp.tok (d :: r)=d :: (r.take (Sp.headRun Sp.isLet r)):=by
     unfold Sp.tok
     rw [Sp.tokLen_cons,if_pos hd,Sp.headRun_cons,if_pos hd,List.take_succ_cons]
    rw [this] at e
    have e1:d=c:=(List.cons.inj e).1
    subst e1
    unfold Sp.isLet at hd
    simp at hd
    omega
  ·cases h
 ·cases h
theorem one_byte (c:UInt8):∃ t:ByteArray,t=⟨[c].toArray⟩∧t.size=1∧∀ h:0<t.size,t[0]=c:=⟨⟨[c].toArray⟩,rfl,rfl,fun _=>rfl⟩
theorem name_ok {b:Nat} {s:ByteArray} {m1 m2:Nat} {l:Sp.Bs} {o:Nat} {ct:Int × Int} {w:World} (h:Rd b s m1 m2 l o ct w) {k:Nat} (hk:Sp.nameVal l=some k) :
  Calls Tryz.prog 203 #[.pointer (some ⟨b,0,none⟩)] w fun e w'=>e=.returned (.int .i64 k)∧Rd b s m1 m2 (Sp.next l) o ct w'∧Ext b w w':=by
 obtain ⟨c,ht,hkd,hc1,hc2,rfl⟩:=nameVal_some hk
 obtain ⟨t,et,hs1,hx⟩:=one_byte c
 have h0:0<t.size:=by omega
 have h2:w.cell? ⟨b,2,none⟩=some (.int .i64 2):=by rw [h.c2,hkd]; rfl
 have h3:w.cell? ⟨b,3,none⟩=some (.string t):=by rw [h.c3,ht,et]
 have hc3:(t[0].toNat:Int)<105:=by rw [hx]; omega
 have hc4:(97:Int)≤(t[0].toNat:Int):=by rw [hx]; omega
 have hfin:Hid (((c.toNat - 97:Nat):Int)=(t[0].toNat:Int) - 97):=by unfold Hid; rw [hx]; omega
 have hd:decide ((105:Int)≤(t[0].toNat:Int))=false:=by simp; omega
 have HK3:Hid (Sp.tokKind l ≠ 3):=by unfold Hid; omega
 clear hx et hk hc1 hc2 hkd ht
 go_enter Tryz.func203,Tryz.ntmps203
 go_wp2_with fail
 refine (step_calls h HK3.out).mono ?_
 rintro e w' ⟨rfl,h1,x1⟩
 go_wp2_with fail
 go_ret
 exact ⟨ret_int (by rw [hfin.out]),h1,x1⟩
theorem name_bad {b:Nat} {s:ByteArray} {m1 m2:Nat} {l:Sp.Bs} {o:Nat} {ct:Int × Int} {w:World} (h:Rd b s m1 m2 l o ct w) (hk:Sp.nameVal l=none) :
  Calls Tryz.prog 203 #[.pointer (some ⟨b,0,none⟩)] w fun e w'=>Faulty s b w (2,l.length) e w':=by
 have h2:=h.c2
 have h3:=h.c3
 by_cases hkd:Sp.tokKind l=2
 ·by_cases hln:(Sp.tok l).length=1
  ·obtain ⟨c,ht⟩:∃ c,Sp.tok l=[c]:=by
    match hm:Sp.tok l,hln with
    | [c],_=>exact ⟨c,rfl⟩
   obtain ⟨t,et,hs1,hx⟩:=one_byte c
   have h0:0<t.size:=by omega
   have hge:105≤c.toNat:=by
    unfold Sp.nameVal at hk
    rw [ht] at hk
    simp [hkd] at hk
    omega
   rw [hkd] at h2
   have h2':w.cell? ⟨b,2,none⟩=some (.int .i64 2):=h2
   rw [ht,← et] at h3
   have hd:decide ((105:Int)≤(t[0].toNat:Int))=true:=by simp; rw [hx]; omega
   have hd':(105:Int)≤(t[0].toNat:Int):=by simpa using hd
   clear h2 hx et ht hge hk hkd hln
   go_enter Tryz.func203,Tryz.ntmps203
   go_wp2_with fail
   refine (fault_calls h 2).mono ?_
   rintro e w' ⟨rfl,rfl⟩
   go_wp2_with fail
   exact ⟨rfl,faulty_of h 2 2 rfl⟩
  ·rw [hkd] at h2
   have h2':w.cell? ⟨b,2,none⟩=some (.int .i64 2):=h2
   generalize et:(⟨(Sp.tok l).toArray⟩:ByteArray)=t at h3
   have hs1:((t.size:Int) == 1)=false:=by
    rw [← et]
    have:(⟨(Sp.tok l).toArray⟩:ByteArray).size=(Sp.tok l).length:=by simp [ByteArray.size]
    rw [this]; simp; omega
   have hs2:¬ ((t.size:Int)=1):=by simpa using hs1
   clear h2 et hk hkd hln
   go_enter Tryz.func203,Tryz.ntmps203
   go_wp2_with fail
   refine (fault_calls h 2).mono ?_
   rintro e w' ⟨rfl,rfl⟩
   go_wp2_with fail
   exact ⟨rfl,faulty_of h 2 2 rfl⟩
 ·have hb:(((Sp.tokKind l:Nat):Int) == 2)=false:=by simp; omega
  have hb2:¬ (((Sp.tokKind l:Nat):Int)=2):=by omega
  clear hk hkd
  generalize Sp.tokKind l=kd at h2 hb hb2
  go_enter Tryz.func203,Tryz.ntmps203
  go_wp2_with fail
  refine (fault_calls h 2).mono ?_
  rintro e w' ⟨rfl,rfl⟩
  go_wp2_with fail
  exact ⟨rfl,faulty_of h 2 2 rfl⟩
end Go.Proofs.YtiopfihjmkfdmaaGreatDoor
