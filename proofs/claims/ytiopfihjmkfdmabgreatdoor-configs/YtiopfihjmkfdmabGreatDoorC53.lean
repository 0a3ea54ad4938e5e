import Derived.Test.YtiopfihjmkfdmabGreatDoorC52
import Derived.Test.YtiopfihjmkfdmabGreatDoorC1
import Derived.Carry
import Derived.SevenTiedAt
import Derived.ShutString
import Derived.Test.YtiopfihjmkfdmabGreatDoorCards
import Derived.Test.YtiopfihjmkfdmabGreatDoorTie
namespace Go.Proofs.YtiopfihjmkfdmabGreatDoor
open Go.Value renaming int->I,agg->J,bool->U,tuple->φ,pointer->ρ,slice->Z,iface->σ,string->χ
open Go.IntKind renaming i64->O
open Go.Ending renaming returned->υ
open Option renaming none->M,some->Y
open Go.Obj renaming cells->L
open Go.Proofs.Tryz Sp
open Go.RowKit
set_option maxRecDepth 100000
set_option maxHeartbeats 16000000
section
open Go.ChangeShapes Go.WideShapes Go.ChangeAt Go.RowKit
open Go.ChangeMaps (open_string shut_string)
section
variable {H: Type}{enc: TypeId×Value->H}{P: Program}{w: Wd}{base: Nat}{spare: Nat->Bool}{held: Bool}
section
variable{t0 t1 t2 t3 t4:TypeId}
theorem Ŀ{args:Array Value}{ds:List (DataW H)}{ps:List MemPlace}(h:DataW.TrodAll enc P w base spare held [t0,t1,t2,t3,t4] args.toList ds ps) :
  ∃v0 v1 v2 v3 v4 d0 d1 d2 d3 d4 p0 p1 p2 p3 p4,args=#[v0,v1,v2,v3,v4]/\ds=[d0,d1,d2,d3,d4]/\ps=p0++p1++p2++p3++p4/\DataW.Trod enc P w base spare held t0 v0 d0 p0/\DataW.Trod enc P w base spare held t1 v1 d1 p1/\DataW.Trod enc P w base spare held t2 v2 d2 p2/\DataW.Trod enc P w base spare held t3 v3 d3 p3/\DataW.Trod enc P w base spare held t4 v4 d4 p4:=by
 obtain⟨v0,vs0,d0,ds0,p0,q0,ach,rfl,rfl,Zl,je⟩:=trodAll_cons h;obtain⟨v1,vs1,d1,ds1,p1,q1,rfl,rfl,rfl,X7,hr1⟩:=trodAll_cons je;obtain⟨v2,vs2,d2,ds2,p2,q2,rfl,rfl,rfl,Yk,pD⟩:=trodAll_cons hr1;obtain⟨v3,vs3,d3,ds3,p3,q3,rfl,rfl,rfl,hd3,DL⟩:=trodAll_cons pD;obtain⟨v4,vs4,d4,ds4,p4,q4,rfl,rfl,rfl,hd4,tS⟩:=trodAll_cons DL;obtain⟨rfl,rfl,rfl⟩:=trodAll_nil tS;exact⟨v0,v1,v2,v3,v4,d0,d1,d2,d3,d4,p0,p1,p2,p3,p4,by rw[<-Array.toList_inj];exact ach,rfl,Ä,Zl,X7,Yk,hd3,hd4⟩
theorem ı{v0 v1 v2 v3 v4:Value}{d0 d1 d2 d3 d4:DataW H}{p0 p1 p2 p3 p4:List MemPlace}(h0:DataW.Trod enc P w base spare held t0 v0 d0 p0)(h1:DataW.Trod enc P w base spare held t1 v1 d1 p1)
  (h2:DataW.Trod enc P w base spare held t2 v2 d2 p2) (h3:DataW.Trod enc P w base spare held t3 v3 d3 p3) (h4:DataW.Trod enc P w base spare held t4 v4 d4 p4):DataW.TrodAll enc P w base spare held [t0,t1,t2,t3,t4] [v0,v1,v2,v3,v4] [d0,d1,d2,d3,d4] (p0++(p1++(p2++(p3++p4)))):=⟨p0,p1++(p2++(p3++p4)),h0,trodAll_mk4 h1 h2 h3 h4,rfl⟩
end
end
theorem ī(os:Os)(started:os.Started)(H:Type)(enc:TypeId × Value->H) :
  ReturnsInHanded {} checked os 3 .any (λw args=>(Rows.configsSpec.pre enc prog f3 [] false w args/\laidMetH prog Rows.configsRow.laid w)/\sizedMet enc prog f3 (OpenSpec.ofChange Rows.configsSpec) false w args)
   (Rows.configsSpec.post enc prog f3 false true false false):=by
 refine returnsInHanded_of_change_and (C:=checked) (X:=λw _=>laidMetH prog Rows.configsRow.laid w) (λ_ _ _ hh h=>h.of_heap hh) own started Ã func3
  (ChangeSpec.witness_shaped (enc:=enc) (C:=checked) (os:=os) (X:=λw _=>laidMetH prog Rows.configsRow.laid w) false (World.doorLaid prog 400 os) #[.string ByteArray.empty,.int O 0,.int O 0,.int O 0,.int O 0] 8 rfl (World.shaped_of_RefB Ã Ã) Ã Ã Ã (Ģ os _)) ?_
 intro W base args ds gs before ab6 hW _ _ hL _;have abS:∀(j:Nat) t v,f3.params[j]?=Y t->args[j]?=Y v->Value.okWide prog W .any base t v:=ab6;have hW':=hW;obtain⟨p,q,hA0,hV,rfl,hfz,WK⟩:=hW;have hA:DataW.TrodAll enc prog W 0 (λ_=>true) true f3.params.toList args.toList ds p:=hA0;rw[params3]at hA abS;obtain⟨v0,v1,v2,v3,v4,d0,d1,d2,d3,d4,p0,p1,p2,p3,p4,rfl,rfl,rfl,h0,h1,h2,h3,h4⟩:=Ŀ hA;obtain⟨rfl,rfl⟩:=trodVars_none hV;obtain⟨s,rfl,rfl,rfl,ws⟩:=open_string underlying9 (abS 0 9 v0 rfl rfl) h0;obtain⟨x1,rfl,rfl,rfl,w1⟩:=open_int underlying3 (abS 1 3 v1 rfl rfl) h1;obtain⟨x2,rfl,rfl,rfl,w2⟩:=open_int underlying3 (abS 2 3 v2 rfl rfl) h2;obtain⟨x3,rfl,rfl,rfl,w3⟩:=open_int underlying3 (abS 3 3 v3 rfl rfl) h3;obtain⟨x4,rfl,rfl,rfl,w4⟩:=open_int underlying3 (abS 4 3 v4 rfl rfl) h4;clear hA0 ab6;obtain⟨ZB,hTu⟩:=Ĭ hL;refine(ŀ s x1 x2 x3 x4 W ZB hTu).mono λe W' ⟨he,KA⟩=>?_
 subst he;exact⟨_,rfl,_,_,_,[],_,[],hW',trodAll_mk1 (shut_bool underlying4 _),ı (shut_string underlying9 ws) (shut_int underlying3 w1) (shut_int underlying3 w2) (shut_int underlying3 w3) (shut_int underlying3 w4),rfl,KA.frame _,λh=>by cases h⟩
theorem Ğ:joinedFacts prog 3 f3 Rows.configsSpec Rows.configsRow=true:=
 ħ Ñ ľ Ĵ Ñ Ñ rfl ĵ rfl ĭ
  Ñ Ñ Ñ Ñ
  Ñ Ñ Ñ Ñ Ñ
  Ñ Ñ Ñ Ñ Ħ rfl ġ ĳ Ñ Ñ
  Ñ Ñ Ñ Ñ
theorem Ł:Rows.ConfigsSaid:=
 OpenClaim.holds_of_wide 3 f3 rfl rfl rfl rfl rfl rfl rfl ⟨rfl,rfl,rfl,rfl,rfl⟩ rfl rfl rfl rfl rfl Ñ func3 Ğ
  (of_decide_eq_true Ñ) (by unfold Func.isWrapper;first|(rw[Á (by decide +kernel)];kernel_rfl)|(rw[Â (by decide +kernel)];exact⟨rfl,rfl⟩))
  (λos started H enc _=>ī os started H enc)
theorem configs_proved:Rows.ConfigsCardSaid:=
 Claim7.holds_tied_plain_at .later [] [.data,.data,.data,.data,.data,.data,.data,.handle,.sentinel,.sentinel] true (true,Rows.configsCard.stood.harness.2) true
  Ł (λ_ h=>by cases h) Ñ (λ_ h=>by cases h) configs_row_tie rfl ⟨rfl,rfl⟩ Ñ rfl
  (λf fn hf hfn=>by
    obtain rfl:f=3:=Ï ((show prog.funcNamed "invariants/invariantslaw.Configs" = Y 3 by as_aux_lemma=>kernel_rfl).symm.trans hf)|>.symm;obtain rfl:fn=f3:=(Ï (func3.symm.trans hfn)).symm;exact⟨Ñ,λj t ht=>by
     rw[params3]at ht;have h3:t=9∨t=4∨t=3:=by
      rcases j with _|_|_|_|_|j
      .left;simpa using ht.symm
      .right;right;simpa using ht.symm
      .right;right;simpa using ht.symm
      .right;right;simpa using ht.symm
      .right;right;simpa using ht.symm
      .simp at ht
     rcases h3 with rfl|rfl|rfl
     .exact(show prog.wantsStandIn 9=false by as_aux_lemma=>kernel_rfl)
     .exact(show prog.wantsStandIn 4=false by as_aux_lemma=>kernel_rfl)
     .exact(show prog.wantsStandIn 3=false by as_aux_lemma=>kernel_rfl)⟩)
  Ñ
end
end Go.Proofs.YtiopfihjmkfdmabGreatDoor
