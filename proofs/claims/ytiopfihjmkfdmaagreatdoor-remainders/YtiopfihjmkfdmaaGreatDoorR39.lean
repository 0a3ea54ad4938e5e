import Derived.Test.YtiopfihjmkfdmaaGreatDoorR1
import Derived.Test.YtiopfihjmkfdmaaGreatDoorR38
import Derived.Carry
import Derived.SevenTiedAt
import Derived.ShutString
import Derived.Test.YtiopfihjmkfdmaaGreatDoorCards
import Derived.Test.YtiopfihjmkfdmaaGreatDoorTie
namespace Go.Proofs.YtiopfihjmkfdmaaGreatDoor
open Go.IntKind renaming i64→O
open Option renaming some→Y
open Go.Proofs.Tryz Sp
set_option maxRecDepth 100000
set_option maxHeartbeats 16000000
open Go.ChangeShapes Go.WideShapes Go.ChangeAt Go.RowKit
open Go.ChangeMaps (open_string shut_string)
section
variable {H : Type}{enc : TypeId × Value->H}{P : Program}{w : Wd}{base : Nat}{spare : Nat->Bool}{held : Bool}
section
variable{t0 t1 t2 t3 t4:TypeId}
theorem Bf{args:Array Value}{ds:List (DataW H)}{ps:List MemPlace}(h:DataW.TrodAll enc P w base spare held [t0,t1,t2,t3,t4] args.toList ds ps) :
  ∃v0 v1 v2 v3 v4 d0 d1 d2 d3 d4 p0 p1 p2 p3 p4,args=#[v0,v1,v2,v3,v4]/\ds=[d0,d1,d2,d3,d4]/\ps=p0 ++ p1 ++ p2 ++ p3 ++ p4/\DataW.Trod enc P w base spare held t0 v0 d0 p0/\DataW.Trod enc P w base spare held t1 v1 d1 p1/\DataW.Trod enc P w base spare held t2 v2 d2 p2/\DataW.Trod enc P w base spare held t3 v3 d3 p3/\DataW.Trod enc P w base spare held t4 v4 d4 p4:=by
 obtain⟨v0,vs0,d0,ds0,p0,q0,Wg,rfl,rfl,Us,iz⟩:=trodAll_cons h;obtain⟨v1,vs1,d1,ds1,p1,q1,rfl,rfl,rfl,OA,Wi⟩:=trodAll_cons iz;obtain⟨v2,vs2,d2,ds2,p2,q2,rfl,rfl,rfl,Qd,od⟩:=trodAll_cons Wi;obtain⟨v3,vs3,d3,ds3,p3,q3,rfl,rfl,rfl,UF,Gl⟩:=trodAll_cons od;obtain⟨v4,vs4,d4,ds4,p4,q4,rfl,rfl,rfl,UW,qN⟩:=trodAll_cons Gl;obtain⟨rfl,rfl,rfl⟩:=trodAll_nil qN;exact⟨v0,v1,v2,v3,v4,d0,d1,d2,d3,d4,p0,p1,p2,p3,p4,by rw[<-Array.toList_inj];exact Wg,rfl,by simp,Us,OA,Qd,UF,UW⟩
theorem Cj{v0 v1 v2 v3 v4:Value}{d0 d1 d2 d3 d4:DataW H}{p0 p1 p2 p3 p4:List MemPlace}(h0:DataW.Trod enc P w base spare held t0 v0 d0 p0)(h1:DataW.Trod enc P w base spare held t1 v1 d1 p1)
  (h2:DataW.Trod enc P w base spare held t2 v2 d2 p2) (h3:DataW.Trod enc P w base spare held t3 v3 d3 p3) (h4:DataW.Trod enc P w base spare held t4 v4 d4 p4):DataW.TrodAll enc P w base spare held [t0,t1,t2,t3,t4] [v0,v1,v2,v3,v4] [d0,d1,d2,d3,d4] (p0 ++ (p1 ++ (p2 ++ (p3 ++ p4)))):=⟨p0,p1 ++ (p2 ++ (p3 ++ p4)),h0,trodAll_mk4 h1 h2 h3 h4,rfl⟩
end
end
theorem rz(os:Os)(started:os.Started)(H:Type)(enc:TypeId × Value->H) :
  ReturnsInHanded {} checked os 12 .any (fun w args=>(Rows.remaindersSpec.pre enc prog f12 [] false w args/\laidMetH prog Rows.remaindersRow.laid w)/\sizedMet enc prog f12 (OpenSpec.ofChange Rows.remaindersSpec) false w args)
   (Rows.remaindersSpec.post enc prog f12 false true false false):=by
 refine returnsInHanded_of_change_and (C:=checked) (X:=fun w _=>laidMetH prog Rows.remaindersRow.laid w) (fun _ _ _ hh h=>h.of_heap hh) own started (by kernel_rfl) func12
  (ChangeSpec.witness_shaped (enc:=enc) (C:=checked) (os:=os) (X:=fun w _=>laidMetH prog Rows.remaindersRow.laid w) false (World.doorLaid prog 400 os) #[.string ByteArray.empty,.int O 0,.int O 0,.int O 0,.bool false] 8 rfl (World.shaped_of_RefB (by kernel_rfl) (by kernel_rfl)) (by kernel_rfl) (by kernel_rfl) (by kernel_rfl) (JC os _)) ?_
 intro W base args ds gs before Ry hW _ _ hL _;have Kh:∀(j:Nat) t v,f12.params[j]?=Y t->args[j]?=Y v->Value.okWide prog W .any base t v:=Ry;have Z7:=hW;obtain⟨p,q,hA0,hV,rfl,hfz,Rn⟩:=hW;have hA:DataW.TrodAll enc prog W 0 (fun _=>true) true f12.params.toList args.toList ds p:=hA0;rw[params12]at hA Kh;obtain⟨v0,v1,v2,v3,v4,d0,d1,d2,d3,d4,p0,p1,p2,p3,p4,rfl,rfl,rfl,h0,h1,h2,h3,h4⟩:=Bf hA;obtain⟨rfl,rfl⟩:=trodVars_none hV;obtain⟨s,rfl,rfl,rfl,ws⟩:=open_string underlying9 (Kh 0 9 v0 rfl rfl) h0;obtain⟨x1,rfl,rfl,rfl,w1⟩:=open_int underlying3 (Kh 1 3 v1 rfl rfl) h1;obtain⟨x2,rfl,rfl,rfl,w2⟩:=open_int underlying3 (Kh 2 3 v2 rfl rfl) h2;obtain⟨x3,rfl,rfl,rfl,w3⟩:=open_int underlying3 (Kh 3 3 v3 rfl rfl) h3;obtain⟨x4,rfl,rfl,rfl⟩:=open_bool underlying4 (Kh 4 4 v4 rfl rfl) h4;clear hA0 Ry;obtain⟨TO,hTu⟩:=Ms hL;refine(su s x1 x2 x3 x4 W TO hTu).mono fun e W' ⟨he,Eh⟩=>?_
 subst he;exact⟨_,rfl,_,_,_,[],_,[],Z7,trodAll_mk1 (shut_bool underlying4 _),Cj (shut_string underlying9 ws) (shut_int underlying3 w1) (shut_int underlying3 w2) (shut_int underlying3 w3) (shut_bool underlying4 _),rfl,Eh.frame _,fun h=>by cases h⟩
theorem ri:joinedFacts prog 12 f12 Rows.remaindersSpec Rows.remaindersRow=true :=
 Jp (by as_aux_lemma=>kernel_rfl) IE DM (by as_aux_lemma=>kernel_rfl) (by as_aux_lemma=>kernel_rfl) rfl Pe rfl OT
  (by as_aux_lemma=>kernel_rfl) (by as_aux_lemma=>kernel_rfl) (by as_aux_lemma=>kernel_rfl) (by as_aux_lemma=>kernel_rfl)
  (by as_aux_lemma=>kernel_rfl) (by as_aux_lemma=>kernel_rfl) (by as_aux_lemma=>kernel_rfl) (by as_aux_lemma=>kernel_rfl) (by as_aux_lemma=>kernel_rfl)
  (by as_aux_lemma=>kernel_rfl) (by as_aux_lemma=>kernel_rfl) (by as_aux_lemma=>kernel_rfl) (by as_aux_lemma=>kernel_rfl) S3 rfl O9 OQ (by as_aux_lemma=>kernel_rfl) (by as_aux_lemma=>kernel_rfl)
  (by as_aux_lemma=>kernel_rfl) (by as_aux_lemma=>kernel_rfl) (by as_aux_lemma=>kernel_rfl) (by as_aux_lemma=>kernel_rfl)
theorem vW:Rows.RemaindersSaid :=
 OpenClaim.holds_of_wide 12 f12 rfl rfl rfl rfl rfl rfl rfl ⟨rfl,rfl,rfl,rfl,rfl⟩ rfl rfl rfl rfl rfl (by as_aux_lemma=>kernel_rfl) func12 ri
  (of_decide_eq_true (by as_aux_lemma=>kernel_rfl)) (by unfold Func.isWrapper;first | (rw[if_pos (by decide +kernel)];kernel_rfl) | (rw[if_neg (by decide +kernel)];exact⟨rfl,rfl⟩))
  (fun os started H enc _=>rz os started H enc)
theorem remainders_proved:Rows.RemaindersCardSaid :=
 Claim7.holds_tied_plain_at .later [] [.data,.data,.data,.data,.data,.data,.data,.handle,.sentinel,.sentinel] true (true,Rows.remaindersCard.stood.harness.2) true
  vW (fun _ h=>by cases h) (by as_aux_lemma=>kernel_rfl) (fun _ h=>by cases h) remainders_row_tie rfl ⟨rfl,rfl⟩ (by as_aux_lemma=>kernel_rfl) rfl
  (fun f fn hf hfn=>by
    obtain rfl:f=12:=Option.some.inj ((show prog.funcNamed "invariants/invariantslaw.Remainders" = Y 12 by as_aux_lemma=>kernel_rfl).symm.trans hf) |>.symm;obtain rfl:fn=f12:=(Option.some.inj (func12.symm.trans hfn)).symm;exact⟨by as_aux_lemma=>kernel_rfl,fun j t ht=>by
     rw[params12]at ht;have h3:t=9∨t=4∨t=3:=by
      rcases j with _ | _ | _ | _ | _ | j
      ·left;simpa using ht.symm
      ·right;right;simpa using ht.symm
      ·right;right;simpa using ht.symm
      ·right;right;simpa using ht.symm
      ·right;left;simpa using ht.symm
      ·simp at ht
     rcases h3 with rfl | rfl | rfl
     ·exact(show prog.wantsStandIn 9=false by as_aux_lemma=>kernel_rfl)
     ·exact(show prog.wantsStandIn 4=false by as_aux_lemma=>kernel_rfl)
     ·exact(show prog.wantsStandIn 3=false by as_aux_lemma=>kernel_rfl)⟩)
  (by as_aux_lemma=>kernel_rfl)
end Go.Proofs.YtiopfihjmkfdmaaGreatDoor
