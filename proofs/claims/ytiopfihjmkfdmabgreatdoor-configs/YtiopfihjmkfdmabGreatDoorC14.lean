import Derived.Test.YtiopfihjmkfdmabGreatDoorC8
import Derived.Test.YtiopfihjmkfdmabGreatDoorC13
import Derived.LaidHandle
import Derived.LaidLaws
import Derived.LaidMore
import Derived.OpenShut
import Derived.ProofKit
import Derived.Stop.Joined
namespace Go.Proofs.YtiopfihjmkfdmabGreatDoor
open Go.Value renaming agg->J,int->I,pointer->ρ,iface->σ,bool->U,tuple->φ
open Option renaming none->M,some->Y
open Go.Obj renaming cells->L
open Go.IntKind renaming i64->O
open Go.Ending renaming returned->υ
open Go.Proofs.Tryz Sp
open Go.RowKit
set_option maxRecDepth 100000
set_option maxHeartbeats 16000000
section
open Go.RowKit Go.Extern.Stop Go.Stop Go.Extern
theorem sr(h:Value)(w:Wd):(Go.method 580 241 (J #[h]) "Kind").run prog w=.ok (268,h) w:=Ã
theorem su(h:Value)(w:Wd):(Go.method 580 241 (J #[h]) "Elem").run prog w=.ok (330,J #[h]) w:=Ã
theorem jr(h:Value)(w:Wd):(Go.method 580 241 (J #[h]) "Implements").run prog w=.ok (331,J #[h]) w:=Ã
theorem iw(h:Value)(w:Wd):(Go.method 580 241 (J #[h]) "AssignableTo").run prog w=.ok (328,J #[h]) w:=Ã
theorem Bq(t:Addr)(w:Wd):(ReflectliteValue.unpack (σ 97 (ρ (Y t)))).run prog w
  = .ok (J #[ρ (Y ⟨11,97,M⟩),ρ (Y ⟨w.heap.size,0,M⟩),I .u64 150]) (w.alloc (L #[ρ (Y t)] 97)):=Ã
theorem Om(a:Addr)(w:Wd):(ReflectliteValue.methodAny (ReflectliteValue.valueError "reflectlite.Value.Type" 0) (λt _ _ _=>ReflectliteType.toType t) #[J #[ρ (Y ⟨11,97,M⟩),ρ (Y a),I .u64 150]]).run prog w
  = .ok (σ 241 (J #[ρ (Y ⟨11,97,M⟩)])) w:=Ã
theorem Qc(w:Wd):((ReflectliteType.abiMethod λt=>(λa:Nat=>Value.int IntKind.u8 (a:Int)) <$> Rtype.kind t) #[ρ (Y ⟨11,97,M⟩)]).run prog w=.ok (I .u8 22) w:=Ã
theorem TT(w:Wd):((ReflectliteType.abiMethod λt=>(λa:Nat=>Value.int IntKind.u8 (a:Int)) <$> Rtype.kind t) #[ρ (Y ⟨11,95,M⟩)]).run prog w=.ok (I .u8 22) w:=Ã
theorem JN(a:Addr)(w:Wd):(ReflectliteValue.parts (J #[ρ (Y ⟨11,97,M⟩),ρ (Y a),I .u64 150])).run prog w=.ok (Y (97,a,150)) w:=Ã
theorem JP(a p:Addr)(W:Wd)(ha:W.cell? a=Y (ρ (Y p))) :
  (ReflectliteValue.method (ReflectliteValue.valueError "reflectlite.Value.IsNil" 0) ReflectliteValue.isNil #[J #[ρ (Y ⟨11,97,M⟩),ρ (Y a),I .u64 150]]).run prog W=.ok (U false) W:=by
 change (ReflectliteValue.parts (J #[ρ (Y ⟨11,97,M⟩),ρ (Y a),I .u64 150]) >>= _).run prog W=_;simp only[ß,JN,Result.andThen];simp[ReflectliteValue.isNil,loadVar,isAgg,underlying,underlying97,ha,Result.andThen]
theorem OZ(w:Wd):(ReflectliteType.method ReflectliteType.elem #[J #[ρ (Y ⟨11,97,M⟩)]]).run prog w=.ok (σ 241 (J #[ρ (Y ⟨11,95,M⟩)])) w:=Ã
theorem TN(w:Wd):(ReflectliteType.relation "Implements" ReflectliteType.implements_ #[J #[ρ (Y ⟨11,95,M⟩)],σ 241 (J #[ρ (Y ⟨11,35,M⟩)])]).run prog w=.ok (U true) w:=Ã
theorem Se(v:Value)(w:Wd):(ReflectliteType.typeOf #[σ 95 v]).run prog w=.ok (σ 241 (J #[ρ (Y ⟨11,95,M⟩)])) w:=Ã
theorem JK(v:Value)(w:Wd):(ReflectliteType.typeOf #[σ 40 v]).run prog w=.ok (σ 241 (J #[ρ (Y ⟨11,40,M⟩)])) w:=Ã
theorem Sd(w:Wd):(ReflectliteType.relation "AssignableTo" ReflectliteType.assignableTo #[J #[ρ (Y ⟨11,95,M⟩)],σ 241 (J #[ρ (Y ⟨11,95,M⟩)])]).run prog w=.ok (U true) w:=Ã
theorem OG(w:Wd):(ReflectliteType.relation "AssignableTo" ReflectliteType.assignableTo #[J #[ρ (Y ⟨11,40,M⟩)],σ 241 (J #[ρ (Y ⟨11,95,M⟩)])]).run prog w=.ok (U false) w:=Ã
theorem Rn(w:Wd):(ReflectliteType.relation "AssignableTo" ReflectliteType.assignableTo #[J #[ρ (Y ⟨11,40,M⟩)],σ 241 (J #[ρ (Y ⟨11,40,M⟩)])]).run prog w=.ok (U true) w:=Ã
theorem OK(e:Addr)(w:Wd):(ReflectliteValue.unpack (σ 95 (ρ (Y e)))).run prog w
  = .ok (J #[ρ (Y ⟨11,95,M⟩),ρ (Y ⟨w.heap.size,0,M⟩),I .u64 150]) (w.alloc (L #[ρ (Y e)] 95)):=Ã
theorem Nz(w:Wd):(Rtype.elem? 97).run prog w=.ok (Y 95) w:=Ã
theorem Ġ(p:Addr)(w:Wd):(ReflectliteValue.mk 95 p ReflectliteValue.flagAddr).run prog w=.ok (J #[ρ (Y ⟨11,95,M⟩),ρ (Y p),I .u64 406]) w:=Ã
theorem SC(a p:Addr)(W:Wd)(ha:W.cell? a=Y (ρ (Y p))) :
  (ReflectliteValue.method (ReflectliteValue.valueError "reflectlite.Value.Elem" 0) ReflectliteValue.elem #[J #[ρ (Y ⟨11,97,M⟩),ρ (Y a),I .u64 150]]).run prog W
    = .ok (J #[ρ (Y ⟨11,95,M⟩),ρ (Y p),I .u64 406]) W:=by
 change (ReflectliteValue.parts (J #[ρ (Y ⟨11,97,M⟩),ρ (Y a),I .u64 150]) >>= _).run prog W=_;simp only[ß,JN,Result.andThen];simp[ReflectliteValue.elem,loadVar,isAgg,underlying,underlying97,ha,Result.andThen,Nz,Ġ]
theorem Sl(a:Addr)(w:Wd):(ReflectliteValue.parts (J #[ρ (Y ⟨11,95,M⟩),ρ (Y a),I .u64 406])).run prog w=.ok (Y (95,a,406)) w:=Ã
theorem Wb(a:Addr)(w:Wd):(ReflectliteValue.parts (J #[ρ (Y ⟨11,95,M⟩),ρ (Y a),I .u64 150])).run prog w=.ok (Y (95,a,150)) w:=Ã
theorem SA(w:Wd):(Rtype.directlyAssignable 95 95).run prog w=.ok true w:=Ã
theorem ğ(ta b e:Addr)(old:Value)(W:Wd)(hb:W.cell? b=Y (ρ (Y e)))(ht:W.cell? ta=Y old)(hf:W.frozen? ta=false) :
  (ReflectliteValue.set #[J #[ρ (Y ⟨11,95,M⟩),ρ (Y ta),I .u64 406],J #[ρ (Y ⟨11,95,M⟩),ρ (Y b),I .u64 150]]).run prog W
    = .ok (φ #[]) (W.setCell ta (ρ (Y e))):=by
 change (ReflectliteValue.parts (J #[ρ (Y ⟨11,95,M⟩),ρ (Y ta),I .u64 406]) >>= λ_=>ReflectliteValue.parts (J #[ρ (Y ⟨11,95,M⟩),ρ (Y b),I .u64 150]) >>= _).run prog W=_;simp only[ß,Sl,Wb,Result.andThen];simp[ReflectliteValue.flagAddr,loadVar,isAgg,underlying,underlying95,hb,Result.andThen,SA,storeVar,Value.cells,storeCells,Addr.add];rw[run_store prog W ta _ _ Ê];simp[ht,hf]
theorem Lt(t:Addr)(w:Wd):(ReflectliteValue.unpack (σ 103 (ρ (Y t)))).run prog w
  = .ok (J #[ρ (Y ⟨11,103,M⟩),ρ (Y ⟨w.heap.size,0,M⟩),I .u64 150]) (w.alloc (L #[ρ (Y t)] 103)):=Ã
theorem VS(a:Addr)(w:Wd):(ReflectliteValue.methodAny (ReflectliteValue.valueError "reflectlite.Value.Type" 0) (λt _ _ _=>ReflectliteType.toType t) #[J #[ρ (Y ⟨11,103,M⟩),ρ (Y a),I .u64 150]]).run prog w
  = .ok (σ 241 (J #[ρ (Y ⟨11,103,M⟩)])) w:=Ã
theorem Wn(w:Wd):((ReflectliteType.abiMethod λt=>(λa:Nat=>Value.int IntKind.u8 (a:Int)) <$> Rtype.kind t) #[ρ (Y ⟨11,103,M⟩)]).run prog w=.ok (I .u8 22) w:=Ã
theorem YX(w:Wd):((ReflectliteType.abiMethod λt=>(λa:Nat=>Value.int IntKind.u8 (a:Int)) <$> Rtype.kind t) #[ρ (Y ⟨11,40,M⟩)]).run prog w=.ok (I .u8 2) w:=Ã
theorem JO(a:Addr)(w:Wd):(ReflectliteValue.parts (J #[ρ (Y ⟨11,103,M⟩),ρ (Y a),I .u64 150])).run prog w=.ok (Y (103,a,150)) w:=Ã
theorem SD(a p:Addr)(W:Wd)(ha:W.cell? a=Y (ρ (Y p))) :
  (ReflectliteValue.method (ReflectliteValue.valueError "reflectlite.Value.IsNil" 0) ReflectliteValue.isNil #[J #[ρ (Y ⟨11,103,M⟩),ρ (Y a),I .u64 150]]).run prog W=.ok (U false) W:=by
 change (ReflectliteValue.parts (J #[ρ (Y ⟨11,103,M⟩),ρ (Y a),I .u64 150]) >>= _).run prog W=_;simp only[ß,JO,Result.andThen];simp[ReflectliteValue.isNil,loadVar,isAgg,underlying,underlying103,ha,Result.andThen]
theorem UM(w:Wd):(ReflectliteType.method ReflectliteType.elem #[J #[ρ (Y ⟨11,103,M⟩)]]).run prog w=.ok (σ 241 (J #[ρ (Y ⟨11,40,M⟩)])) w:=Ã
theorem Y3(w:Wd):(ReflectliteType.relation "Implements" ReflectliteType.implements_ #[J #[ρ (Y ⟨11,40,M⟩)],σ 241 (J #[ρ (Y ⟨11,35,M⟩)])]).run prog w=.ok (U true) w:=Ã
theorem PD(n:Int)(w:Wd):(ReflectliteValue.unpack (σ 40 (I O n))).run prog w
  = .ok (J #[ρ (Y ⟨11,40,M⟩),ρ (Y ⟨w.heap.size,0,M⟩),I .u64 130]) (w.alloc (L #[I O n] 40)):=Ã
theorem O8(w:Wd):(Rtype.elem? 103).run prog w=.ok (Y 40) w:=Ã
theorem ļ(p:Addr)(w:Wd):(ReflectliteValue.mk 40 p ReflectliteValue.flagAddr).run prog w=.ok (J #[ρ (Y ⟨11,40,M⟩),ρ (Y p),I .u64 386]) w:=Ã
theorem SR(a p:Addr)(W:Wd)(ha:W.cell? a=Y (ρ (Y p))) :
  (ReflectliteValue.method (ReflectliteValue.valueError "reflectlite.Value.Elem" 0) ReflectliteValue.elem #[J #[ρ (Y ⟨11,103,M⟩),ρ (Y a),I .u64 150]]).run prog W
    = .ok (J #[ρ (Y ⟨11,40,M⟩),ρ (Y p),I .u64 386]) W:=by
 change (ReflectliteValue.parts (J #[ρ (Y ⟨11,103,M⟩),ρ (Y a),I .u64 150]) >>= _).run prog W=_;simp only[ß,JO,Result.andThen];simp[ReflectliteValue.elem,loadVar,isAgg,underlying,underlying103,ha,Result.andThen,O8,ļ]
theorem RC(a:Addr)(w:Wd):(ReflectliteValue.parts (J #[ρ (Y ⟨11,40,M⟩),ρ (Y a),I .u64 386])).run prog w=.ok (Y (40,a,386)) w:=Ã
theorem Wj(a:Addr)(w:Wd):(ReflectliteValue.parts (J #[ρ (Y ⟨11,40,M⟩),ρ (Y a),I .u64 130])).run prog w=.ok (Y (40,a,130)) w:=Ã
theorem SM(w:Wd):(Rtype.directlyAssignable 40 40).run prog w=.ok true w:=Ã
theorem į(ta b:Addr)(n:Int)(old:Value)(W:Wd)(hb:W.cell? b=Y (I O n))(ht:W.cell? ta=Y old)(hf:W.frozen? ta=false) :
  (ReflectliteValue.set #[J #[ρ (Y ⟨11,40,M⟩),ρ (Y ta),I .u64 386],J #[ρ (Y ⟨11,40,M⟩),ρ (Y b),I .u64 130]]).run prog W
    = .ok (φ #[]) (W.setCell ta (I O n)):=by
 change (ReflectliteValue.parts (J #[ρ (Y ⟨11,40,M⟩),ρ (Y ta),I .u64 386]) >>= λ_=>ReflectliteValue.parts (J #[ρ (Y ⟨11,40,M⟩),ρ (Y b),I .u64 130]) >>= _).run prog W=_;simp only[ß,RC,Wj,Result.andThen];simp[ReflectliteValue.flagAddr,loadVar,isAgg,underlying,underlying40,hb,Result.andThen,SM,storeVar,Value.cells,storeCells,Addr.add];rw[run_store prog W ta _ _ Ê];simp[ht,hf]
end
section
open Go.RowKit Go.Extern.Stop Go.Stop Go.Extern
theorem ĸ(v:Value)(xT:TypeId)(w:Wd):(Instr.typeAssert (σ 40 v) xT 246 true).run prog w=.ok (φ #[.nilIface,U false]) w:=run_typeAssert_lacksB underlying246 Ã Ã v xT w
theorem ĝ(v:Value)(xT:TypeId)(w:Wd):(Instr.typeAssert (σ 40 v) xT 249 true).run prog w=.ok (φ #[.nilIface,U false]) w:=run_typeAssert_lacksB underlying249 Ã Ã v xT w
theorem YF(v:Value)(xT:TypeId)(w:Wd):(Instr.typeAssert (σ 40 v) xT 251 true).run prog w=.ok (φ #[.nilIface,U false]) w:=run_typeAssert_lacksB underlying251 Ã Ã v xT w
abbrev VH:=@run_callFunc_extern prog 51 _ (λargs=>ReflectliteValue.unpack (args.getD 0 (φ #[]))) func51 Ã Ã Ã Ã
abbrev VQ:=@run_callFunc_extern prog 52 _ (ReflectliteValue.methodAny (ReflectliteValue.valueError "reflectlite.Value.Type" 0) (λt _ _ _=>ReflectliteType.toType t)) func52 Ã Ã Ã Ã
abbrev VX:=@run_callFunc_extern prog 53 _ (ReflectliteValue.method (ReflectliteValue.valueError "reflectlite.Value.IsNil" 0) ReflectliteValue.isNil) func53 Ã Ã Ã Ã
abbrev NF:=@run_callFunc_extern prog 268 _ (ReflectliteType.abiMethod λt=>do pure (I .u8 (<-Rtype.kind t))) func268 Ã Ã Ã Ã
abbrev OU:=@run_callFunc_extern prog 330 _ (ReflectliteType.method ReflectliteType.elem) func330 Ã Ã Ã Ã
abbrev PQ:=@run_callFunc_extern prog 331 _ (ReflectliteType.relation "Implements" ReflectliteType.implements_) func331 Ã Ã Ã Ã
abbrev NL:=@run_callFunc_extern prog 84 _ ReflectliteType.typeOf func84 Ã Ã Ã Ã
abbrev Oc:=@run_callFunc_extern prog 328 _ (ReflectliteType.relation "AssignableTo" ReflectliteType.assignableTo) func328 Ã Ã Ã Ã
abbrev Ot:=@run_callFunc_extern prog 85 _ (ReflectliteValue.method (ReflectliteValue.valueError "reflectlite.Value.Elem" 0) ReflectliteValue.elem) func85 Ã Ã Ã Ã
abbrev PB:=@run_callFunc_extern prog 86 _ ReflectliteValue.set func86 Ã Ã Ã Ã
theorem Sz(e:Addr)(t:Addr)(old:Value)(w:Wd)(hg:w.cell? ⟨0,0,M⟩=Y (σ 241 (J #[ρ (Y ⟨11,35,M⟩)])))(df:11<=w.heap.size)(I8:w.cell? t=Y old)(hf0:w.frozen? t=false) :
  Calls prog 25 #[σ 95 (ρ (Y e)),σ 97 (ρ (Y t))] w λe' w'=>e'=υ (U true)/\w'=((((w.alloc (L #[ρ (Y t)] 97)).alloc (L #[ρ (Y ⟨11,97,M⟩),ρ (Y ⟨w.heap.size,0,M⟩),I .u64 150] 184)).alloc (L #[ρ (Y ⟨11,97,M⟩),ρ (Y ⟨w.heap.size,0,M⟩),I .u64 150] 184)).alloc (L #[ρ (Y e)] 95)).setCell t (ρ (Y e)):=by
 have h6:=VH;have h7:=VQ;have h8:=VX;have h27:=NF;have h37:=OU;have h38:=PQ;have gW:=NL;have h35:=Oc;have wD:=Ot;have ud:=PB;have mK:=sr;have mE:=su;have mI:=jr;have mA:=iw;have f6:=Bq;have f7:=Om;have kP:=Qc;have kN:=TT;have eP:=OZ;have iN:=TN;have tO:=Se;have aE:=Sd;have vE:=OK;have n8:=JP ⟨w.heap.size,0,M⟩ t ((w.alloc (L #[ρ (Y t)] 97)).alloc (L #[ρ (Y ⟨11,97,M⟩),ρ (Y ⟨w.heap.size,0,M⟩),I .u64 150] 184)) Ä;have AH:((w.alloc (L #[ρ (Y t)] 97)).alloc (L #[ρ (Y ⟨11,97,M⟩),ρ (Y ⟨w.heap.size,0,M⟩),I .u64 150] 184)).cell? ⟨0,0,M⟩=Y (σ 241 (J #[ρ (Y ⟨11,35,M⟩)])):=by rw[Ó _ _ ⟨0,0,M⟩ (by simp<;>omega),Ó _ _ ⟨0,0,M⟩ (show 0<w.heap.size by omega)];exact hg
 have MV:t.block<w.heap.size:=by
  rcases æ t.block w.heap.size with h|h
  .exact h
  .simp[World.cell?,ã h]at I8
 have el:=SC ⟨w.heap.size,0,M⟩ t (((w.alloc (L #[ρ (Y t)] 97)).alloc (L #[ρ (Y ⟨11,97,M⟩),ρ (Y ⟨w.heap.size,0,M⟩),I .u64 150] 184)).alloc (L #[ρ (Y ⟨11,97,M⟩),ρ (Y ⟨w.heap.size,0,M⟩),I .u64 150] 184)) (by rw[Ó _ _ ⟨w.heap.size,0,M⟩ (by simp;omega)];simp);have st:=ğ t ⟨w.heap.size+1+1+1,0,M⟩ e old ((((w.alloc (L #[ρ (Y t)] 97)).alloc (L #[ρ (Y ⟨11,97,M⟩),ρ (Y ⟨w.heap.size,0,M⟩),I .u64 150] 184)).alloc (L #[ρ (Y ⟨11,97,M⟩),ρ (Y ⟨w.heap.size,0,M⟩),I .u64 150] 184)).alloc (L #[ρ (Y e)] 95))
  (by rw[World.cell?_alloc_at _ _ _ _ Ä];rfl)
  (by rw[Ó _ _ t (by simp;omega),Ó _ _ t (by simp;omega),Ó _ _ t (by simp;omega),Ó _ _ t MV];exact I8)
  (by rw[é _ _ t (by simp;omega),é _ _ t (by simp;omega),é _ _ t (by simp;omega),é _ _ t (Nat.ne_of_lt MV)];exact hf0)
 go_enter func25,ntmps25
 go_wp2
 refine ü 1 ?_;rw[û]
 go_wp2
 go_ret;exact⟨rfl,rfl⟩
theorem RJ(n:Int)(t:Addr)(old:Value)(w:Wd)(hg:w.cell? ⟨0,0,M⟩=Y (σ 241 (J #[ρ (Y ⟨11,35,M⟩)])))(df:11<=w.heap.size)(I8:w.cell? t=Y old)(hf0:w.frozen? t=false) :
  Calls prog 25 #[σ 40 (I O n),σ 103 (ρ (Y t))] w λe' w'=>e'=υ (U true)/\w'=((((w.alloc (L #[ρ (Y t)] 103)).alloc (L #[ρ (Y ⟨11,103,M⟩),ρ (Y ⟨w.heap.size,0,M⟩),I .u64 150] 184)).alloc (L #[ρ (Y ⟨11,103,M⟩),ρ (Y ⟨w.heap.size,0,M⟩),I .u64 150] 184)).alloc (L #[I O n] 40)).setCell t (I O n):=by
 have h6:=VH;have h7:=VQ;have h8:=VX;have h27:=NF;have h37:=OU;have h38:=PQ;have gW:=NL;have h35:=Oc;have wD:=Ot;have ud:=PB;have mK:=sr;have mE:=su;have mI:=jr;have mA:=iw;have f6:=Lt;have f7:=VS;have kP:=Wn;have kN:=YX;have eP:=UM;have iN:=Y3;have tO:=JK;have aE:=Rn;have vE:=PD;have n8:=SD ⟨w.heap.size,0,M⟩ t ((w.alloc (L #[ρ (Y t)] 103)).alloc (L #[ρ (Y ⟨11,103,M⟩),ρ (Y ⟨w.heap.size,0,M⟩),I .u64 150] 184)) Ä;have AH:((w.alloc (L #[ρ (Y t)] 103)).alloc (L #[ρ (Y ⟨11,103,M⟩),ρ (Y ⟨w.heap.size,0,M⟩),I .u64 150] 184)).cell? ⟨0,0,M⟩=Y (σ 241 (J #[ρ (Y ⟨11,35,M⟩)])):=by rw[Ó _ _ ⟨0,0,M⟩ (by simp<;>omega),Ó _ _ ⟨0,0,M⟩ (show 0<w.heap.size by omega)];exact hg
 have MV:t.block<w.heap.size:=by
  rcases æ t.block w.heap.size with h|h
  .exact h
  .simp[World.cell?,ã h]at I8
 have el:=SR ⟨w.heap.size,0,M⟩ t (((w.alloc (L #[ρ (Y t)] 103)).alloc (L #[ρ (Y ⟨11,103,M⟩),ρ (Y ⟨w.heap.size,0,M⟩),I .u64 150] 184)).alloc (L #[ρ (Y ⟨11,103,M⟩),ρ (Y ⟨w.heap.size,0,M⟩),I .u64 150] 184)) (by rw[Ó _ _ ⟨w.heap.size,0,M⟩ (by simp;omega)];simp);have st:=į t ⟨w.heap.size+1+1+1,0,M⟩ n old ((((w.alloc (L #[ρ (Y t)] 103)).alloc (L #[ρ (Y ⟨11,103,M⟩),ρ (Y ⟨w.heap.size,0,M⟩),I .u64 150] 184)).alloc (L #[ρ (Y ⟨11,103,M⟩),ρ (Y ⟨w.heap.size,0,M⟩),I .u64 150] 184)).alloc (L #[I O n] 40))
  (by rw[World.cell?_alloc_at _ _ _ _ Ä];rfl)
  (by rw[Ó _ _ t (by simp;omega),Ó _ _ t (by simp;omega),Ó _ _ t (by simp;omega),Ó _ _ t MV];exact I8)
  (by rw[é _ _ t (by simp;omega),é _ _ t (by simp;omega),é _ _ t (by simp;omega),é _ _ t (Nat.ne_of_lt MV)];exact hf0)
 go_enter func25,ntmps25
 go_wp2
 refine ü 1 ?_;rw[û]
 go_wp2
 go_ret;exact⟨rfl,rfl⟩
theorem NP(n:Int)(t:Addr)(old:Value)(w:Wd)(hg:w.cell? ⟨0,0,M⟩=Y (σ 241 (J #[ρ (Y ⟨11,35,M⟩)])))(df:11<=w.heap.size)(I8:w.cell? t=Y old) :
  Calls prog 25 #[σ 40 (I O n),σ 97 (ρ (Y t))] w λe' w'=>e'=υ (U false)/\w'=(((w.alloc (L #[ρ (Y t)] 97)).alloc (L #[ρ (Y ⟨11,97,M⟩),ρ (Y ⟨w.heap.size,0,M⟩),I .u64 150] 184)).alloc (L #[ρ (Y ⟨11,97,M⟩),ρ (Y ⟨w.heap.size,0,M⟩),I .u64 150] 184)):=by
 have h6:=VH;have h7:=VQ;have h8:=VX;have h27:=NF;have h37:=OU;have h38:=PQ;have gW:=NL;have h35:=Oc;have wD:=Ot;have ud:=PB;have mK:=sr;have mE:=su;have mI:=jr;have mA:=iw;have f6:=Bq;have f7:=Om;have kP:=Qc;have kN:=TT;have eP:=OZ;have iN:=TN;have tO:=JK;have aE:=OG;have n1:=ĸ;have n2:=ĝ;have n3:=YF;have n8:=JP ⟨w.heap.size,0,M⟩ t ((w.alloc (L #[ρ (Y t)] 97)).alloc (L #[ρ (Y ⟨11,97,M⟩),ρ (Y ⟨w.heap.size,0,M⟩),I .u64 150] 184)) Ä;have AH:((w.alloc (L #[ρ (Y t)] 97)).alloc (L #[ρ (Y ⟨11,97,M⟩),ρ (Y ⟨w.heap.size,0,M⟩),I .u64 150] 184)).cell? ⟨0,0,M⟩=Y (σ 241 (J #[ρ (Y ⟨11,35,M⟩)])):=by rw[Ó _ _ ⟨0,0,M⟩ (by simp<;>omega),Ó _ _ ⟨0,0,M⟩ (show 0<w.heap.size by omega)];exact hg
 have MV:t.block<w.heap.size:=by
  rcases æ t.block w.heap.size with h|h
  .exact h
  .simp[World.cell?,ã h]at I8
 go_enter func25,ntmps25
 go_wp2
 refine ü 1 ?_;rw[û]
 go_wp2
 go_ret;exact⟨rfl,rfl⟩
end
section
variable{w w' w0:Wd}
variable{B F N:Nat}
variable{a n:Int}
def zq(w:Wd):Prop:=w.cell? ⟨0,0,M⟩=Y (σ 241 (J #[ρ (Y ⟨11,35,M⟩)]))
structure rA(w:Wd):Prop where
 laid:Laid w
 et:zq w
theorem zq.below(h:zq w)(hb:Below B w w')(hB:11<=B):zq w':=by unfold zq;rw[hb.cell (show 0<B by omega)];exact h
theorem rA.below(h:rA w)(hb:Below B w w')(hB:11<=B):rA w':=
 ⟨h.laid.below hb hB,h.et.below hb hB⟩
theorem Pu(e:Addr)(T:Nat)(w:Wd)(hg:zq w)(df:11<=w.heap.size)(hT:Bk w T #[ρ M] 95) :
  Calls prog 25 #[σ 95 (ρ (Y e)),σ 97 (ρ (Y ⟨T,0,M⟩))] w λe' w'=>e'=υ (U true)/\w'.cell? ⟨T,0,M⟩=Y (ρ (Y e))/\Below T w w':=by
 have F3:=ah hT;have hc:w.cell? ⟨T,0,M⟩=Y (ρ M):=cell_of hT 0 rfl;refine(Sz e ⟨T,0,M⟩ (ρ M) w hg df hc (by simp[World.frozen?,hT])).mono ?_;rintro e' w'⟨rfl,rfl⟩;refine⟨rfl,?_,?_⟩
 .refine Ĉ _ _ _ (u:=ρ M) ?_
  rw[Ó _ _ ⟨T,0,M⟩ (by simp;omega),Ó _ _ ⟨T,0,M⟩ (by simp;omega),Ó _ _ ⟨T,0,M⟩ (by simp;omega),Ó _ _ ⟨T,0,M⟩ F3];exact hc
 .exact(((((Û T w).alloc À _).alloc (by simp;omega) _).alloc (by simp;omega) _).alloc (by simp;omega) _).setCell È _
theorem Qi(n:Int)(T:Nat)(w:Wd)(hg:zq w)(df:11<=w.heap.size)(hT:Bk w T #[I O 0] 40) :
  Calls prog 25 #[σ 40 (I O n),σ 103 (ρ (Y ⟨T,0,M⟩))] w λe' w'=>e'=υ (U true)/\w'.cell? ⟨T,0,M⟩=Y (I O n)/\Below T w w':=by
 have F3:=ah hT;have hc:w.cell? ⟨T,0,M⟩=Y (I O 0):=cell_of hT 0 rfl;refine(RJ n ⟨T,0,M⟩ (I O 0) w hg df hc (by simp[World.frozen?,hT])).mono ?_;rintro e' w'⟨rfl,rfl⟩;refine⟨rfl,?_,?_⟩
 .refine Ĉ _ _ _ (u:=I O 0) ?_
  rw[Ó _ _ ⟨T,0,M⟩ (by simp;omega),Ó _ _ ⟨T,0,M⟩ (by simp;omega),Ó _ _ ⟨T,0,M⟩ (by simp;omega),Ó _ _ ⟨T,0,M⟩ F3];exact hc
 .exact(((((Û T w).alloc À _).alloc (by simp;omega) _).alloc (by simp;omega) _).alloc (by simp;omega) _).setCell È _
theorem Lv(n:Int)(T:Nat)(w:Wd)(hg:zq w)(df:11<=w.heap.size)(hT:Bk w T #[ρ M] 95) :
  Calls prog 25 #[σ 40 (I O n),σ 97 (ρ (Y ⟨T,0,M⟩))] w λe' w'=>e'=υ (U false)/\ω w w':=by
 have hc:w.cell? ⟨T,0,M⟩=Y (ρ M):=cell_of hT 0 rfl;refine(NP n ⟨T,0,M⟩ (ρ M) w hg df hc).mono ?_;rintro e' w'⟨rfl,rfl⟩;exact⟨rfl,(((Å).alloc À _).alloc Ä _).alloc (by simp;omega) _⟩
theorem PO(w:Wd):Calls prog 9 #[.nilIface] w λe w'=>e=υ (φ #[I O 0,I O 0])/\ω w w':=by
 go_enter func9,ntmps9;go_wp2_with fail
 go_ret2
 exact⟨rfl,((Å).alloc À _).alloc Ä _⟩
theorem Ft(a:Int)(w:Wd):Calls prog 26 #[J #[I O a]] w λe w'=>e=υ (I O a)/\ω w w':=by go_enter func26,ntmps26;go_wp2_with fail;go_ret;exact⟨rfl,(Å).alloc À _⟩
theorem zt(n:Int)(w:Wd)(hg:zq w)(df:11<=w.heap.size):Calls prog 9 #[σ 40 (I O n)] w λe w'=>e=υ (φ #[I O n,I O 0])/\ω w w':=by
 have b1:ω w ((w.alloc (L #[ρ M] 95)).alloc (L #[I O 0] 40)):=((Å).alloc À _).alloc Ä _;have hF:((w.alloc (L #[ρ M] 95)).alloc (L #[I O 0] 40)).heap[w.heap.size]?=Y (L #[ρ M] 95):=by rw[Below.heap_alloc _ _ _ Ä];exact heap_alloc_new _ _
 have hN:((w.alloc (L #[ρ M] 95)).alloc (L #[I O 0] 40)).heap[w.heap.size+1]?=Y (L #[I O 0] 40):=by have:=heap_alloc_new (w.alloc (L #[ρ M] 95)) (L #[I O 0] 40);simpa using this
 have F8:=Lv n w.heap.size _ (hg.below b1 df) (by simp;omega) hF;go_enter func9,ntmps9;go_wp2_with fail;refine F8.mono ?_;rintro e w1⟨rfl,b2⟩;have hN1:w1.heap[w.heap.size+1]?=Y (L #[I O 0] 40):=by rw[b2.block _ Ä];exact hN
 have b3:ω w w1:=b1.trans (b2.mono (by simp;omega));have px:=Qi n (w.heap.size+1) w1 (hg.below b3 df) (by have:=b3.size;omega) hN1;clear F8 hF hN hN1;go_wp2_with fail;refine px.mono ?_;rintro e w2⟨rfl,il,b4⟩;clear px;go_wp2_with fail
 go_ret2
 exact⟨rfl,b3.trans (b4.mono À)⟩
def Bf(w0:Wd)(F N:Nat)(a n:Int)(w:Wd):Prop:=
 w.cell? ⟨F,0,M⟩=Y (ρ (Y ⟨N,0,M⟩))/\w.cell? ⟨N,0,M⟩=Y (I O a)/\w.cell? ⟨N,1,M⟩=Y (I O n)/\ω w0 w
theorem tC{p:Addr}{v:Value}(h:w.cell? p=Y v):p.block<w.heap.size:=by
 rcases æ p.block w.heap.size with k|k
 .exact k
 .simp[World.cell?,ã k]at h
theorem P4(hb:ω w w')(h:Bf w0 F N a n w):Bf w0 F N a n w':=by
 obtain⟨h1,h2,h3,h4⟩:=h;refine⟨?_,?_,?_,h4.trans (hb.mono h4.size)⟩
 .rw[hb.cell (tC h1)];exact h1
 .rw[hb.cell (tC h2)];exact h2
 .rw[hb.cell (tC h3)];exact h3
theorem Lw(h:Bf w0 F N a n w):ω w0 w:=h.2.2.2
theorem PG(h:Bf w0 F N a n w):Bf w0 F N a n w.drew:=⟨h.1,h.2.1,h.2.2.1,h.2.2.2.drew⟩
theorem IU(N:Nat)(a n:Int)(w:Wd)(hg:zq w)(df:11<=w.heap.size)(hN:Bk w N #[I O a,I O n] 101):Calls prog 9 #[σ 95 (ρ (Y ⟨N,0,M⟩))] w λe w'=>e=υ (φ #[I O n,I O a])/\ω w w':=by
 have hNl:=ah hN;have b1:ω w ((w.alloc (L #[ρ M] 95)).alloc (L #[I O 0] 40)):=((Å).alloc À _).alloc Ä _;have hF:((w.alloc (L #[ρ M] 95)).alloc (L #[I O 0] 40)).heap[w.heap.size]?=Y (L #[ρ M] 95):=by rw[Below.heap_alloc _ _ _ Ä];exact heap_alloc_new _ _
 have F8:=Pu ⟨N,0,M⟩ w.heap.size _ (hg.below b1 df) (by simp;omega) hF;go_enter func9,ntmps9;go_wp2_with fail;refine F8.mono ?_;rintro e w1⟨rfl,il,b2⟩;have b3:ω w w1:=b1.trans b2;have k:Bf w w.heap.size N a n w1:=⟨il,by rw[b3.cell (show N<w.heap.size from hNl)];exact cell_of hN 0 rfl,by rw[b3.cell (show N<w.heap.size from hNl)];exact cell_of hN 1 rfl,b3⟩;have kd:=PG k;clear F8 hF hN il b2 b3 b1 k;go_wp2_with fail
 go_region_held3 (λw':Wd=>w'.cell? ⟨w.heap.size,0,M⟩=Y (ρ (Y ⟨N,0,M⟩))/\w'.cell? ⟨N,0,M⟩=Y (I O a)/\w'.cell? ⟨N,1,M⟩=Y (I O n)/\ω w w') (first|exact kd|assumption|exact P4 (by assumption) (by assumption)) (first|(go_at_call 26;refine(Ft a _).mono ?_;rintro e w1 ⟨rfl,F5⟩))
 all_goals
  go_wp2_with fail
  go_ret2
  exact⟨rfl,Lw (F:=w.heap.size) (N:=N) (a:=a) (n:=n) (by assumption)⟩
theorem OT(v:Value)(er:Nat × Nat)(B:Nat)(w:Wd)(hg:zq w)(df:11<=w.heap.size)(hv:lD w B v er) :
  Calls prog 9 #[v] w λe w'=>e=υ (φ #[I O er.1,I O er.2])/\ω w w':=by
 rcases hv with⟨rfl,rfl⟩|⟨N,_,rfl,hN⟩
 .exact zt 1 w hg df
 .exact IU N er.2 er.1 w hg df hN
end
end Go.Proofs.YtiopfihjmkfdmabGreatDoor
