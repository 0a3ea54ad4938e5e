import Derived.Test.YtiopfihjmkfdmaaGreatDoorR7
import Derived.Test.YtiopfihjmkfdmaaGreatDoorR10
import Derived.LaidEql
import Derived.LaidHandle
import Derived.LaidLaws
import Derived.LaidMore
import Derived.OpenShut
import Derived.ProofKit
import Derived.RowKitTokens
import Derived.Stop.Asserts
import Derived.Stop.Joined
namespace Go.Proofs.YtiopfihjmkfdmaaGreatDoor
open Option renaming none→M,some→Y
open Go.Value renaming agg→J,int→I,pointer→ρ,iface→σ,bool→U,tuple→φ
open Go.Obj renaming cells→L
open Go.IntKind renaming i64→O
open Go.Ending renaming returned→υ
open Go.Proofs.Tryz Sp
open Go.RowKit
set_option maxRecDepth 100000
set_option maxHeartbeats 16000000
section
open Go.ChangeShapes Go.WideShapes Go.ChangeAt Go.RowKit
theorem own:ownKnob prog.godebug=M:=by kernel_rfl
theorem gET:prog.globalNamed "errors.errorType" = Y 0:=by kernel_rfl
theorem Zx:prog.globalNamed "invariants/tree.opSigns" = Y 1:=by kernel_rfl
theorem Vk:prog.globalNamed "invariants/tree.relationSigns" = Y 2:=by kernel_rfl
theorem Zd:prog.globalNamed "internal/strconv.uint64pow10" = Y 6:=by kernel_rfl
theorem Vf:prog.globalNamed "strconv.ErrRange" = Y 10:=by kernel_rfl
theorem U8:prog.globalNamed "strconv.ErrSyntax" = Y 9:=by kernel_rfl
theorem Y6:(prog.globals[1]?).map (·.type)=Y 272:=by kernel_rfl
theorem U1:(prog.globals[2]?).map (·.type)=Y 273:=by kernel_rfl
theorem Zv:(prog.globals[6]?).map (·.type)=Y 423:=by kernel_rfl
theorem Vw:(prog.globals[10]?).map (·.type)=Y 23:=by kernel_rfl
theorem Vt:(prog.globals[9]?).map (·.type)=Y 23:=by kernel_rfl
theorem Zr:(prog.cutTypes.find? (·.1 == "internal/reflectlite.rtype")).map (·.2)=Y 238:=by kernel_rfl
theorem SQ:((List.range 487).filter fun t=>prog.rowNamed t [101,114,114,111,114])=[23]:=by kernel_rfl
theorem Vq:prog.types.size=487:=by kernel_rfl
theorem rU{H:Type}{enc:TypeId × Value->H}{P:Program}{w:Wd}{base:Nat}{sp:Nat->Bool}{held:Bool}{fuel:Nat}{t e:TypeId}{n:Nat}{cs:List Value}{ss:List (List UInt8)}{p:List MemPlace}
  (ht:P.underlying t=Y (.array n e)) (he:P.underlying e=Y .string) (hce:P.cellsOf e=1)
  (h:DataW.trod enc P w base sp held fuel t cs=Y (.agg (ss.map fun s=>.lit (.string s)),p)) (k:Nat) (s:List UInt8) (hk:ss[k]?=Y s):cs[k]?=Y (.string ⟨s.toArray⟩):=by
 obtain⟨xs,m,rfl,hx,_,hxl,Kq⟩:=DataW.trod_array ht h;simp only[Prod.mk.injEq,DataW.agg.injEq]at hx;have hlen:=congrArg List.length hx.1;simp at hlen;have hkl:k<ss.length:=by
  rcases Nat.lt_or_ge k ss.length with q | q
  ·exact q
  ·rw[List.getElem?_eq_none q]at hk;cases hk
 have Yz:k<xs.length:=by omega
 have h1:=Kq k (by omega);rw[List.getElem?_eq_getElem Yz,hce]at h1;obtain⟨s',hc,hv,_⟩:=DataW.trod_string he h1;have h2:(xs.map (·.1))[k]?=Y (DataW.lit (.string s'.data.toList)):=by simp[List.getElem?_eq_getElem Yz,hv]
 rw[<-hx.1]at h2;simp[hk]at h2;have h3:cs[k]?=Y (.string s'):=by have:=congrArg (·[0]?) hc;simpa [List.getElem?_take,List.getElem?_drop] using this
 rw[h3,h2]
end
section
open Go.RowKit Go.Extern.Stop Go.Stop Go.Extern
theorem qj(h:Value)(w:Wd):(Go.method 587 238 (J #[h]) "Kind").run prog w=.ok (288,h) w:=by kernel_rfl
theorem qe(h:Value)(w:Wd):(Go.method 587 238 (J #[h]) "Elem").run prog w=.ok (350,J #[h]) w:=by kernel_rfl
theorem iH(h:Value)(w:Wd):(Go.method 587 238 (J #[h]) "Implements").run prog w=.ok (351,J #[h]) w:=by kernel_rfl
theorem gN(h:Value)(w:Wd):(Go.method 587 238 (J #[h]) "AssignableTo").run prog w=.ok (348,J #[h]) w:=by kernel_rfl
theorem zi(t:Addr)(w:Wd):(ReflectliteValue.unpack (σ 92 (ρ (Y t)))).run prog w
  = .ok (J #[ρ (Y ⟨11,92,M⟩),ρ (Y ⟨w.heap.size,0,M⟩),I .u64 150]) (w.alloc (L #[ρ (Y t)] 92)):=by kernel_rfl
theorem LP(a:Addr)(w:Wd):(ReflectliteValue.methodAny (ReflectliteValue.valueError "reflectlite.Value.Type" 0) (fun t _ _ _=>ReflectliteType.toType t) #[J #[ρ (Y ⟨11,92,M⟩),ρ (Y a),I .u64 150]]).run prog w
  = .ok (σ 238 (J #[ρ (Y ⟨11,92,M⟩)])) w:=by kernel_rfl
theorem MW(w:Wd):((ReflectliteType.abiMethod fun t=>(fun a:Nat=>Value.int IntKind.u8 (a:Int)) <$> Rtype.kind t) #[ρ (Y ⟨11,92,M⟩)]).run prog w=.ok (I .u8 22) w:=by kernel_rfl
theorem QD(w:Wd):((ReflectliteType.abiMethod fun t=>(fun a:Nat=>Value.int IntKind.u8 (a:Int)) <$> Rtype.kind t) #[ρ (Y ⟨11,90,M⟩)]).run prog w=.ok (I .u8 22) w:=by kernel_rfl
theorem GO(a:Addr)(w:Wd):(ReflectliteValue.parts (J #[ρ (Y ⟨11,92,M⟩),ρ (Y a),I .u64 150])).run prog w=.ok (Y (92,a,150)) w:=by kernel_rfl
theorem G7(a p:Addr)(W:Wd)(ha:W.cell? a=Y (ρ (Y p))) :
  (ReflectliteValue.method (ReflectliteValue.valueError "reflectlite.Value.IsNil" 0) ReflectliteValue.isNil #[J #[ρ (Y ⟨11,92,M⟩),ρ (Y a),I .u64 150]]).run prog W=.ok (U false) W:=by
 change (ReflectliteValue.parts (J #[ρ (Y ⟨11,92,M⟩),ρ (Y a),I .u64 150]) >>= _).run prog W=_;simp only[Sem.run_bind,GO,Result.andThen];simp[ReflectliteValue.isNil,loadVar,isAgg,underlying,underlying92,ha,Result.andThen]
theorem Lx(w:Wd):(ReflectliteType.method ReflectliteType.elem #[J #[ρ (Y ⟨11,92,M⟩)]]).run prog w=.ok (σ 238 (J #[ρ (Y ⟨11,90,M⟩)])) w:=by kernel_rfl
theorem QJ(w:Wd):(ReflectliteType.relation "Implements" ReflectliteType.implements_ #[J #[ρ (Y ⟨11,90,M⟩)],σ 238 (J #[ρ (Y ⟨11,23,M⟩)])]).run prog w=.ok (U true) w:=by kernel_rfl
theorem P3(v:Value)(w:Wd):(ReflectliteType.typeOf #[σ 90 v]).run prog w=.ok (σ 238 (J #[ρ (Y ⟨11,90,M⟩)])) w:=by kernel_rfl
theorem Hr(v:Value)(w:Wd):(ReflectliteType.typeOf #[σ 26 v]).run prog w=.ok (σ 238 (J #[ρ (Y ⟨11,26,M⟩)])) w:=by kernel_rfl
theorem ON(w:Wd):(ReflectliteType.relation "AssignableTo" ReflectliteType.assignableTo #[J #[ρ (Y ⟨11,90,M⟩)],σ 238 (J #[ρ (Y ⟨11,90,M⟩)])]).run prog w=.ok (U true) w:=by kernel_rfl
theorem Mj(w:Wd):(ReflectliteType.relation "AssignableTo" ReflectliteType.assignableTo #[J #[ρ (Y ⟨11,26,M⟩)],σ 238 (J #[ρ (Y ⟨11,90,M⟩)])]).run prog w=.ok (U false) w:=by kernel_rfl
theorem Ph(w:Wd):(ReflectliteType.relation "AssignableTo" ReflectliteType.assignableTo #[J #[ρ (Y ⟨11,26,M⟩)],σ 238 (J #[ρ (Y ⟨11,26,M⟩)])]).run prog w=.ok (U true) w:=by kernel_rfl
theorem MR(e:Addr)(w:Wd):(ReflectliteValue.unpack (σ 90 (ρ (Y e)))).run prog w
  = .ok (J #[ρ (Y ⟨11,90,M⟩),ρ (Y ⟨w.heap.size,0,M⟩),I .u64 150]) (w.alloc (L #[ρ (Y e)] 90)):=by kernel_rfl
theorem Mk(w:Wd):(Rtype.elem? 92).run prog w=.ok (Y 90) w:=by kernel_rfl
theorem mkF(p:Addr)(w:Wd):(ReflectliteValue.mk 90 p ReflectliteValue.flagAddr).run prog w=.ok (J #[ρ (Y ⟨11,90,M⟩),ρ (Y p),I .u64 406]) w:=by kernel_rfl
theorem PI(a p:Addr)(W:Wd)(ha:W.cell? a=Y (ρ (Y p))) :
  (ReflectliteValue.method (ReflectliteValue.valueError "reflectlite.Value.Elem" 0) ReflectliteValue.elem #[J #[ρ (Y ⟨11,92,M⟩),ρ (Y a),I .u64 150]]).run prog W
    = .ok (J #[ρ (Y ⟨11,90,M⟩),ρ (Y p),I .u64 406]) W:=by
 change (ReflectliteValue.parts (J #[ρ (Y ⟨11,92,M⟩),ρ (Y a),I .u64 150]) >>= _).run prog W=_;simp only[Sem.run_bind,GO,Result.andThen];simp[ReflectliteValue.elem,loadVar,isAgg,underlying,underlying92,ha,Result.andThen,Mk,mkF]
theorem OJ(a:Addr)(w:Wd):(ReflectliteValue.parts (J #[ρ (Y ⟨11,90,M⟩),ρ (Y a),I .u64 406])).run prog w=.ok (Y (90,a,406)) w:=by kernel_rfl
theorem Se(a:Addr)(w:Wd):(ReflectliteValue.parts (J #[ρ (Y ⟨11,90,M⟩),ρ (Y a),I .u64 150])).run prog w=.ok (Y (90,a,150)) w:=by kernel_rfl
theorem PJ(w:Wd):(Rtype.directlyAssignable 90 90).run prog w=.ok true w:=by kernel_rfl
theorem Y7(ta b e:Addr)(old:Value)(W:Wd)(hb:W.cell? b=Y (ρ (Y e)))(ht:W.cell? ta=Y old)(hf:W.frozen? ta=false) :
  (ReflectliteValue.set #[J #[ρ (Y ⟨11,90,M⟩),ρ (Y ta),I .u64 406],J #[ρ (Y ⟨11,90,M⟩),ρ (Y b),I .u64 150]]).run prog W
    = .ok (φ #[]) (W.setCell ta (ρ (Y e))):=by
 change (ReflectliteValue.parts (J #[ρ (Y ⟨11,90,M⟩),ρ (Y ta),I .u64 406]) >>= fun _=>ReflectliteValue.parts (J #[ρ (Y ⟨11,90,M⟩),ρ (Y b),I .u64 150]) >>= _).run prog W=_;simp only[Sem.run_bind,OJ,Se,Result.andThen];simp[ReflectliteValue.flagAddr,loadVar,isAgg,underlying,underlying90,hb,Result.andThen,PJ,storeVar,Value.cells,storeCells,Addr.add];rw[run_store prog W ta _ _ (by rfl)];simp[ht,hf]
theorem JX(t:Addr)(w:Wd):(ReflectliteValue.unpack (σ 98 (ρ (Y t)))).run prog w
  = .ok (J #[ρ (Y ⟨11,98,M⟩),ρ (Y ⟨w.heap.size,0,M⟩),I .u64 150]) (w.alloc (L #[ρ (Y t)] 98)):=by kernel_rfl
theorem SA(a:Addr)(w:Wd):(ReflectliteValue.methodAny (ReflectliteValue.valueError "reflectlite.Value.Type" 0) (fun t _ _ _=>ReflectliteType.toType t) #[J #[ρ (Y ⟨11,98,M⟩),ρ (Y a),I .u64 150]]).run prog w
  = .ok (σ 238 (J #[ρ (Y ⟨11,98,M⟩)])) w:=by kernel_rfl
theorem R6(w:Wd):((ReflectliteType.abiMethod fun t=>(fun a:Nat=>Value.int IntKind.u8 (a:Int)) <$> Rtype.kind t) #[ρ (Y ⟨11,98,M⟩)]).run prog w=.ok (I .u8 22) w:=by kernel_rfl
theorem Vo(w:Wd):((ReflectliteType.abiMethod fun t=>(fun a:Nat=>Value.int IntKind.u8 (a:Int)) <$> Rtype.kind t) #[ρ (Y ⟨11,26,M⟩)]).run prog w=.ok (I .u8 2) w:=by kernel_rfl
theorem GU(a:Addr)(w:Wd):(ReflectliteValue.parts (J #[ρ (Y ⟨11,98,M⟩),ρ (Y a),I .u64 150])).run prog w=.ok (Y (98,a,150)) w:=by kernel_rfl
theorem Ps(a p:Addr)(W:Wd)(ha:W.cell? a=Y (ρ (Y p))) :
  (ReflectliteValue.method (ReflectliteValue.valueError "reflectlite.Value.IsNil" 0) ReflectliteValue.isNil #[J #[ρ (Y ⟨11,98,M⟩),ρ (Y a),I .u64 150]]).run prog W=.ok (U false) W:=by
 change (ReflectliteValue.parts (J #[ρ (Y ⟨11,98,M⟩),ρ (Y a),I .u64 150]) >>= _).run prog W=_;simp only[Sem.run_bind,GU,Result.andThen];simp[ReflectliteValue.isNil,loadVar,isAgg,underlying,underlying98,ha,Result.andThen]
theorem S1(w:Wd):(ReflectliteType.method ReflectliteType.elem #[J #[ρ (Y ⟨11,98,M⟩)]]).run prog w=.ok (σ 238 (J #[ρ (Y ⟨11,26,M⟩)])) w:=by kernel_rfl
theorem Vd(w:Wd):(ReflectliteType.relation "Implements" ReflectliteType.implements_ #[J #[ρ (Y ⟨11,26,M⟩)],σ 238 (J #[ρ (Y ⟨11,23,M⟩)])]).run prog w=.ok (U true) w:=by kernel_rfl
theorem NC(n:Int)(w:Wd):(ReflectliteValue.unpack (σ 26 (I O n))).run prog w
  = .ok (J #[ρ (Y ⟨11,26,M⟩),ρ (Y ⟨w.heap.size,0,M⟩),I .u64 130]) (w.alloc (L #[I O n] 26)):=by kernel_rfl
theorem Mb(w:Wd):(Rtype.elem? 98).run prog w=.ok (Y 26) w:=by kernel_rfl
theorem mkE(p:Addr)(w:Wd):(ReflectliteValue.mk 26 p ReflectliteValue.flagAddr).run prog w=.ok (J #[ρ (Y ⟨11,26,M⟩),ρ (Y p),I .u64 386]) w:=by kernel_rfl
theorem Pz(a p:Addr)(W:Wd)(ha:W.cell? a=Y (ρ (Y p))) :
  (ReflectliteValue.method (ReflectliteValue.valueError "reflectlite.Value.Elem" 0) ReflectliteValue.elem #[J #[ρ (Y ⟨11,98,M⟩),ρ (Y a),I .u64 150]]).run prog W
    = .ok (J #[ρ (Y ⟨11,26,M⟩),ρ (Y p),I .u64 386]) W:=by
 change (ReflectliteValue.parts (J #[ρ (Y ⟨11,98,M⟩),ρ (Y a),I .u64 150]) >>= _).run prog W=_;simp only[Sem.run_bind,GU,Result.andThen];simp[ReflectliteValue.elem,loadVar,isAgg,underlying,underlying98,ha,Result.andThen,Mb,mkE]
theorem Py(a:Addr)(w:Wd):(ReflectliteValue.parts (J #[ρ (Y ⟨11,26,M⟩),ρ (Y a),I .u64 386])).run prog w=.ok (Y (26,a,386)) w:=by kernel_rfl
theorem Sa(a:Addr)(w:Wd):(ReflectliteValue.parts (J #[ρ (Y ⟨11,26,M⟩),ρ (Y a),I .u64 130])).run prog w=.ok (Y (26,a,130)) w:=by kernel_rfl
theorem PN(w:Wd):(Rtype.directlyAssignable 26 26).run prog w=.ok true w:=by kernel_rfl
theorem Zq(ta b:Addr)(n:Int)(old:Value)(W:Wd)(hb:W.cell? b=Y (I O n))(ht:W.cell? ta=Y old)(hf:W.frozen? ta=false) :
  (ReflectliteValue.set #[J #[ρ (Y ⟨11,26,M⟩),ρ (Y ta),I .u64 386],J #[ρ (Y ⟨11,26,M⟩),ρ (Y b),I .u64 130]]).run prog W
    = .ok (φ #[]) (W.setCell ta (I O n)):=by
 change (ReflectliteValue.parts (J #[ρ (Y ⟨11,26,M⟩),ρ (Y ta),I .u64 386]) >>= fun _=>ReflectliteValue.parts (J #[ρ (Y ⟨11,26,M⟩),ρ (Y b),I .u64 130]) >>= _).run prog W=_;simp only[Sem.run_bind,Py,Sa,Result.andThen];simp[ReflectliteValue.flagAddr,loadVar,isAgg,underlying,underlying26,hb,Result.andThen,PN,storeVar,Value.cells,storeCells,Addr.add];rw[run_store prog W ta _ _ (by rfl)];simp[ht,hf]
end
section
open Go.RowKit Go.Extern.Stop Go.Stop Go.Extern
theorem Y9(v:Value)(xT:TypeId)(w:Wd):(Instr.typeAssert (σ 26 v) xT 243 true).run prog w=.ok (φ #[.nilIface,U false]) w:=run_typeAssert_lacksB underlying243 (by kernel_rfl) (by kernel_rfl) v xT w
theorem Zp(v:Value)(xT:TypeId)(w:Wd):(Instr.typeAssert (σ 26 v) xT 246 true).run prog w=.ok (φ #[.nilIface,U false]) w:=run_typeAssert_lacksB underlying246 (by kernel_rfl) (by kernel_rfl) v xT w
theorem VI(v:Value)(xT:TypeId)(w:Wd):(Instr.typeAssert (σ 26 v) xT 248 true).run prog w=.ok (φ #[.nilIface,U false]) w:=run_typeAssert_lacksB underlying248 (by kernel_rfl) (by kernel_rfl) v xT w
theorem PD(e:Addr)(t:Addr)(old:Value)(w:Wd)(hg:w.cell? ⟨0,0,M⟩=Y (σ 238 (J #[ρ (Y ⟨11,23,M⟩)])))(cR:11<=w.heap.size)(Kb:w.cell? t=Y old)(hf0:w.frozen? t=false) :
  Calls prog 38 #[σ 90 (ρ (Y e)),σ 92 (ρ (Y t))] w fun e' w'=>e'=υ (U true)/\w'=((((w.alloc (L #[ρ (Y t)] 92)).alloc (L #[ρ (Y ⟨11,92,M⟩),ρ (Y ⟨w.heap.size,0,M⟩),I .u64 150] 161)).alloc (L #[ρ (Y ⟨11,92,M⟩),ρ (Y ⟨w.heap.size,0,M⟩),I .u64 150] 161)).alloc (L #[ρ (Y e)] 90)).setCell t (ρ (Y e)):=by
 have h6:=@run_callFunc_extern prog 61 _ (fun args=>ReflectliteValue.unpack (args.getD 0 (φ #[]))) func61 (by kernel_rfl) (by kernel_rfl) (by kernel_rfl) (by kernel_rfl);have h7:=@run_callFunc_extern prog 62 _ (ReflectliteValue.methodAny (ReflectliteValue.valueError "reflectlite.Value.Type" 0) (fun t _ _ _=>ReflectliteType.toType t)) func62 (by kernel_rfl) (by kernel_rfl) (by kernel_rfl) (by kernel_rfl);have h8:=@run_callFunc_extern prog 63 _ (ReflectliteValue.method (ReflectliteValue.valueError "reflectlite.Value.IsNil" 0) ReflectliteValue.isNil) func63 (by kernel_rfl) (by kernel_rfl) (by kernel_rfl) (by kernel_rfl);have h27:=@run_callFunc_extern prog 288 _ (ReflectliteType.abiMethod fun t=>do pure (I .u8 (<-Rtype.kind t))) func288 (by kernel_rfl) (by kernel_rfl) (by kernel_rfl) (by kernel_rfl);have h37:=@run_callFunc_extern prog 350 _ (ReflectliteType.method ReflectliteType.elem) func350 (by kernel_rfl) (by kernel_rfl) (by kernel_rfl) (by kernel_rfl);have h38:=@run_callFunc_extern prog 351 _ (ReflectliteType.relation "Implements" ReflectliteType.implements_) func351 (by kernel_rfl) (by kernel_rfl) (by kernel_rfl) (by kernel_rfl);have gB:=@run_callFunc_extern prog 92 _ ReflectliteType.typeOf func92 (by kernel_rfl) (by kernel_rfl) (by kernel_rfl) (by kernel_rfl);have h35:=@run_callFunc_extern prog 348 _ (ReflectliteType.relation "AssignableTo" ReflectliteType.assignableTo) func348 (by kernel_rfl) (by kernel_rfl) (by kernel_rfl) (by kernel_rfl);have uC:=@run_callFunc_extern prog 93 _ (ReflectliteValue.method (ReflectliteValue.valueError "reflectlite.Value.Elem" 0) ReflectliteValue.elem) func93 (by kernel_rfl) (by kernel_rfl) (by kernel_rfl) (by kernel_rfl);have sl:=@run_callFunc_extern prog 94 _ ReflectliteValue.set func94 (by kernel_rfl) (by kernel_rfl) (by kernel_rfl) (by kernel_rfl);have mK:=qj;have mE:=qe;have mI:=iH;have mA:=gN;have f6:=zi;have f7:=LP;have kP:=MW;have kN:=QD;have eP:=Lx;have iN:=QJ;have tO:=P3;have aE:=ON;have vE:=MR;have n8:=G7 ⟨w.heap.size,0,M⟩ t ((w.alloc (L #[ρ (Y t)] 92)).alloc (L #[ρ (Y ⟨11,92,M⟩),ρ (Y ⟨w.heap.size,0,M⟩),I .u64 150] 161)) (by simp);have yK:((w.alloc (L #[ρ (Y t)] 92)).alloc (L #[ρ (Y ⟨11,92,M⟩),ρ (Y ⟨w.heap.size,0,M⟩),I .u64 150] 161)).cell? ⟨0,0,M⟩=Y (σ 238 (J #[ρ (Y ⟨11,23,M⟩)])):=by rw[World.cell?_alloc_lt _ _ ⟨0,0,M⟩ (by simp<;>omega),World.cell?_alloc_lt _ _ ⟨0,0,M⟩ (show 0<w.heap.size by omega)];exact hg
 have Ka:t.block<w.heap.size:=by
  rcases Nat.lt_or_ge t.block w.heap.size with h | h
  ·exact h
  ·simp[World.cell?,Array.getElem?_eq_none h]at Kb
 have el:=PI ⟨w.heap.size,0,M⟩ t (((w.alloc (L #[ρ (Y t)] 92)).alloc (L #[ρ (Y ⟨11,92,M⟩),ρ (Y ⟨w.heap.size,0,M⟩),I .u64 150] 161)).alloc (L #[ρ (Y ⟨11,92,M⟩),ρ (Y ⟨w.heap.size,0,M⟩),I .u64 150] 161)) (by rw[World.cell?_alloc_lt _ _ ⟨w.heap.size,0,M⟩ (by simp;omega)];simp);have st:=Y7 t ⟨w.heap.size+1+1+1,0,M⟩ e old ((((w.alloc (L #[ρ (Y t)] 92)).alloc (L #[ρ (Y ⟨11,92,M⟩),ρ (Y ⟨w.heap.size,0,M⟩),I .u64 150] 161)).alloc (L #[ρ (Y ⟨11,92,M⟩),ρ (Y ⟨w.heap.size,0,M⟩),I .u64 150] 161)).alloc (L #[ρ (Y e)] 90))
  (by rw[World.cell?_alloc_at _ _ _ _ (by simp)];rfl)
  (by rw[World.cell?_alloc_lt _ _ t (by simp;omega),World.cell?_alloc_lt _ _ t (by simp;omega),World.cell?_alloc_lt _ _ t (by simp;omega),World.cell?_alloc_lt _ _ t Ka];exact Kb)
  (by rw[World.frozen?_alloc_old _ _ t (by simp;omega),World.frozen?_alloc_old _ _ t (by simp;omega),World.frozen?_alloc_old _ _ t (by simp;omega),World.frozen?_alloc_old _ _ t (Nat.ne_of_lt Ka)];exact hf0)
 go_enter func38,ntmps38
 go_wp2
 refine wp_loop_rounds 1 ?_;rw[rounds_succ]
 go_wp2
 go_ret;exact⟨rfl,rfl⟩
theorem O3(n:Int)(t:Addr)(old:Value)(w:Wd)(hg:w.cell? ⟨0,0,M⟩=Y (σ 238 (J #[ρ (Y ⟨11,23,M⟩)])))(cR:11<=w.heap.size)(Kb:w.cell? t=Y old)(hf0:w.frozen? t=false) :
  Calls prog 38 #[σ 26 (I O n),σ 98 (ρ (Y t))] w fun e' w'=>e'=υ (U true)/\w'=((((w.alloc (L #[ρ (Y t)] 98)).alloc (L #[ρ (Y ⟨11,98,M⟩),ρ (Y ⟨w.heap.size,0,M⟩),I .u64 150] 161)).alloc (L #[ρ (Y ⟨11,98,M⟩),ρ (Y ⟨w.heap.size,0,M⟩),I .u64 150] 161)).alloc (L #[I O n] 26)).setCell t (I O n):=by
 have h6:=@run_callFunc_extern prog 61 _ (fun args=>ReflectliteValue.unpack (args.getD 0 (φ #[]))) func61 (by kernel_rfl) (by kernel_rfl) (by kernel_rfl) (by kernel_rfl);have h7:=@run_callFunc_extern prog 62 _ (ReflectliteValue.methodAny (ReflectliteValue.valueError "reflectlite.Value.Type" 0) (fun t _ _ _=>ReflectliteType.toType t)) func62 (by kernel_rfl) (by kernel_rfl) (by kernel_rfl) (by kernel_rfl);have h8:=@run_callFunc_extern prog 63 _ (ReflectliteValue.method (ReflectliteValue.valueError "reflectlite.Value.IsNil" 0) ReflectliteValue.isNil) func63 (by kernel_rfl) (by kernel_rfl) (by kernel_rfl) (by kernel_rfl);have h27:=@run_callFunc_extern prog 288 _ (ReflectliteType.abiMethod fun t=>do pure (I .u8 (<-Rtype.kind t))) func288 (by kernel_rfl) (by kernel_rfl) (by kernel_rfl) (by kernel_rfl);have h37:=@run_callFunc_extern prog 350 _ (ReflectliteType.method ReflectliteType.elem) func350 (by kernel_rfl) (by kernel_rfl) (by kernel_rfl) (by kernel_rfl);have h38:=@run_callFunc_extern prog 351 _ (ReflectliteType.relation "Implements" ReflectliteType.implements_) func351 (by kernel_rfl) (by kernel_rfl) (by kernel_rfl) (by kernel_rfl);have gB:=@run_callFunc_extern prog 92 _ ReflectliteType.typeOf func92 (by kernel_rfl) (by kernel_rfl) (by kernel_rfl) (by kernel_rfl);have h35:=@run_callFunc_extern prog 348 _ (ReflectliteType.relation "AssignableTo" ReflectliteType.assignableTo) func348 (by kernel_rfl) (by kernel_rfl) (by kernel_rfl) (by kernel_rfl);have uC:=@run_callFunc_extern prog 93 _ (ReflectliteValue.method (ReflectliteValue.valueError "reflectlite.Value.Elem" 0) ReflectliteValue.elem) func93 (by kernel_rfl) (by kernel_rfl) (by kernel_rfl) (by kernel_rfl);have sl:=@run_callFunc_extern prog 94 _ ReflectliteValue.set func94 (by kernel_rfl) (by kernel_rfl) (by kernel_rfl) (by kernel_rfl);have mK:=qj;have mE:=qe;have mI:=iH;have mA:=gN;have f6:=JX;have f7:=SA;have kP:=R6;have kN:=Vo;have eP:=S1;have iN:=Vd;have tO:=Hr;have aE:=Ph;have vE:=NC;have n8:=Ps ⟨w.heap.size,0,M⟩ t ((w.alloc (L #[ρ (Y t)] 98)).alloc (L #[ρ (Y ⟨11,98,M⟩),ρ (Y ⟨w.heap.size,0,M⟩),I .u64 150] 161)) (by simp);have yK:((w.alloc (L #[ρ (Y t)] 98)).alloc (L #[ρ (Y ⟨11,98,M⟩),ρ (Y ⟨w.heap.size,0,M⟩),I .u64 150] 161)).cell? ⟨0,0,M⟩=Y (σ 238 (J #[ρ (Y ⟨11,23,M⟩)])):=by rw[World.cell?_alloc_lt _ _ ⟨0,0,M⟩ (by simp<;>omega),World.cell?_alloc_lt _ _ ⟨0,0,M⟩ (show 0<w.heap.size by omega)];exact hg
 have Ka:t.block<w.heap.size:=by
  rcases Nat.lt_or_ge t.block w.heap.size with h | h
  ·exact h
  ·simp[World.cell?,Array.getElem?_eq_none h]at Kb
 have el:=Pz ⟨w.heap.size,0,M⟩ t (((w.alloc (L #[ρ (Y t)] 98)).alloc (L #[ρ (Y ⟨11,98,M⟩),ρ (Y ⟨w.heap.size,0,M⟩),I .u64 150] 161)).alloc (L #[ρ (Y ⟨11,98,M⟩),ρ (Y ⟨w.heap.size,0,M⟩),I .u64 150] 161)) (by rw[World.cell?_alloc_lt _ _ ⟨w.heap.size,0,M⟩ (by simp;omega)];simp);have st:=Zq t ⟨w.heap.size+1+1+1,0,M⟩ n old ((((w.alloc (L #[ρ (Y t)] 98)).alloc (L #[ρ (Y ⟨11,98,M⟩),ρ (Y ⟨w.heap.size,0,M⟩),I .u64 150] 161)).alloc (L #[ρ (Y ⟨11,98,M⟩),ρ (Y ⟨w.heap.size,0,M⟩),I .u64 150] 161)).alloc (L #[I O n] 26))
  (by rw[World.cell?_alloc_at _ _ _ _ (by simp)];rfl)
  (by rw[World.cell?_alloc_lt _ _ t (by simp;omega),World.cell?_alloc_lt _ _ t (by simp;omega),World.cell?_alloc_lt _ _ t (by simp;omega),World.cell?_alloc_lt _ _ t Ka];exact Kb)
  (by rw[World.frozen?_alloc_old _ _ t (by simp;omega),World.frozen?_alloc_old _ _ t (by simp;omega),World.frozen?_alloc_old _ _ t (by simp;omega),World.frozen?_alloc_old _ _ t (Nat.ne_of_lt Ka)];exact hf0)
 go_enter func38,ntmps38
 go_wp2
 refine wp_loop_rounds 1 ?_;rw[rounds_succ]
 go_wp2
 go_ret;exact⟨rfl,rfl⟩
theorem Ma(n:Int)(t:Addr)(old:Value)(w:Wd)(hg:w.cell? ⟨0,0,M⟩=Y (σ 238 (J #[ρ (Y ⟨11,23,M⟩)])))(cR:11<=w.heap.size)(Kb:w.cell? t=Y old) :
  Calls prog 38 #[σ 26 (I O n),σ 92 (ρ (Y t))] w fun e' w'=>e'=υ (U false)/\w'=(((w.alloc (L #[ρ (Y t)] 92)).alloc (L #[ρ (Y ⟨11,92,M⟩),ρ (Y ⟨w.heap.size,0,M⟩),I .u64 150] 161)).alloc (L #[ρ (Y ⟨11,92,M⟩),ρ (Y ⟨w.heap.size,0,M⟩),I .u64 150] 161)):=by
 have h6:=@run_callFunc_extern prog 61 _ (fun args=>ReflectliteValue.unpack (args.getD 0 (φ #[]))) func61 (by kernel_rfl) (by kernel_rfl) (by kernel_rfl) (by kernel_rfl);have h7:=@run_callFunc_extern prog 62 _ (ReflectliteValue.methodAny (ReflectliteValue.valueError "reflectlite.Value.Type" 0) (fun t _ _ _=>ReflectliteType.toType t)) func62 (by kernel_rfl) (by kernel_rfl) (by kernel_rfl) (by kernel_rfl);have h8:=@run_callFunc_extern prog 63 _ (ReflectliteValue.method (ReflectliteValue.valueError "reflectlite.Value.IsNil" 0) ReflectliteValue.isNil) func63 (by kernel_rfl) (by kernel_rfl) (by kernel_rfl) (by kernel_rfl);have h27:=@run_callFunc_extern prog 288 _ (ReflectliteType.abiMethod fun t=>do pure (I .u8 (<-Rtype.kind t))) func288 (by kernel_rfl) (by kernel_rfl) (by kernel_rfl) (by kernel_rfl);have h37:=@run_callFunc_extern prog 350 _ (ReflectliteType.method ReflectliteType.elem) func350 (by kernel_rfl) (by kernel_rfl) (by kernel_rfl) (by kernel_rfl);have h38:=@run_callFunc_extern prog 351 _ (ReflectliteType.relation "Implements" ReflectliteType.implements_) func351 (by kernel_rfl) (by kernel_rfl) (by kernel_rfl) (by kernel_rfl);have gB:=@run_callFunc_extern prog 92 _ ReflectliteType.typeOf func92 (by kernel_rfl) (by kernel_rfl) (by kernel_rfl) (by kernel_rfl);have h35:=@run_callFunc_extern prog 348 _ (ReflectliteType.relation "AssignableTo" ReflectliteType.assignableTo) func348 (by kernel_rfl) (by kernel_rfl) (by kernel_rfl) (by kernel_rfl);have uC:=@run_callFunc_extern prog 93 _ (ReflectliteValue.method (ReflectliteValue.valueError "reflectlite.Value.Elem" 0) ReflectliteValue.elem) func93 (by kernel_rfl) (by kernel_rfl) (by kernel_rfl) (by kernel_rfl);have sl:=@run_callFunc_extern prog 94 _ ReflectliteValue.set func94 (by kernel_rfl) (by kernel_rfl) (by kernel_rfl) (by kernel_rfl);have mK:=qj;have mE:=qe;have mI:=iH;have mA:=gN;have f6:=zi;have f7:=LP;have kP:=MW;have kN:=QD;have eP:=Lx;have iN:=QJ;have tO:=Hr;have aE:=Mj;have n1:=Y9;have n2:=Zp;have n3:=VI;have n8:=G7 ⟨w.heap.size,0,M⟩ t ((w.alloc (L #[ρ (Y t)] 92)).alloc (L #[ρ (Y ⟨11,92,M⟩),ρ (Y ⟨w.heap.size,0,M⟩),I .u64 150] 161)) (by simp);have yK:((w.alloc (L #[ρ (Y t)] 92)).alloc (L #[ρ (Y ⟨11,92,M⟩),ρ (Y ⟨w.heap.size,0,M⟩),I .u64 150] 161)).cell? ⟨0,0,M⟩=Y (σ 238 (J #[ρ (Y ⟨11,23,M⟩)])):=by rw[World.cell?_alloc_lt _ _ ⟨0,0,M⟩ (by simp<;>omega),World.cell?_alloc_lt _ _ ⟨0,0,M⟩ (show 0<w.heap.size by omega)];exact hg
 have Ka:t.block<w.heap.size:=by
  rcases Nat.lt_or_ge t.block w.heap.size with h | h
  ·exact h
  ·simp[World.cell?,Array.getElem?_eq_none h]at Kb
 go_enter func38,ntmps38
 go_wp2
 refine wp_loop_rounds 1 ?_;rw[rounds_succ]
 go_wp2
 go_ret;exact⟨rfl,rfl⟩
end
section
variable{w w' w0:Wd}
variable{B F N:Nat}
variable{a n:Int}
def wH(w:Wd):Prop:=w.cell? ⟨0,0,M⟩=Y (σ 238 (J #[ρ (Y ⟨11,23,M⟩)]))
structure p9(w:Wd):Prop where
 laid:Laid w
 et:wH w
theorem wH.below(h:wH w)(hb:Below B w w')(hB:11<=B):wH w':=by unfold wH;rw[hb.cell (show 0<B by omega)];exact h
theorem p9.below(h:p9 w)(hb:Below B w w')(hB:11<=B):p9 w' :=
 ⟨h.laid.below hb hB,h.et.below hb hB⟩
theorem Le(e:Addr)(T:Nat)(w:Wd)(hg:wH w)(cR:11<=w.heap.size)(hT:Bk w T #[ρ M] 90) :
  Calls prog 38 #[σ 90 (ρ (Y e)),σ 92 (ρ (Y ⟨T,0,M⟩))] w fun e' w'=>e'=υ (U true)/\w'.cell? ⟨T,0,M⟩=Y (ρ (Y e))/\Below T w w':=by
 have DX:=ad hT;have hc:w.cell? ⟨T,0,M⟩=Y (ρ M):=cell_of hT 0 rfl;refine(PD e ⟨T,0,M⟩ (ρ M) w hg cR hc (by simp[World.frozen?,hT])).mono ?_;rintro e' w'⟨rfl,rfl⟩;refine⟨rfl,?_,?_⟩
 ·refine World.cell?_setCell_same _ _ _ (u:=ρ M) ?_
  rw[World.cell?_alloc_lt _ _ ⟨T,0,M⟩ (by simp;omega),World.cell?_alloc_lt _ _ ⟨T,0,M⟩ (by simp;omega),World.cell?_alloc_lt _ _ ⟨T,0,M⟩ (by simp;omega),World.cell?_alloc_lt _ _ ⟨T,0,M⟩ DX];exact hc
 ·exact(((((Below.refl T w).alloc (by omega) _).alloc (by simp;omega) _).alloc (by simp;omega) _).alloc (by simp;omega) _).setCell (Nat.le_refl _) _
theorem Nu(n:Int)(T:Nat)(w:Wd)(hg:wH w)(cR:11<=w.heap.size)(hT:Bk w T #[I O 0] 26) :
  Calls prog 38 #[σ 26 (I O n),σ 98 (ρ (Y ⟨T,0,M⟩))] w fun e' w'=>e'=υ (U true)/\w'.cell? ⟨T,0,M⟩=Y (I O n)/\Below T w w':=by
 have DX:=ad hT;have hc:w.cell? ⟨T,0,M⟩=Y (I O 0):=cell_of hT 0 rfl;refine(O3 n ⟨T,0,M⟩ (I O 0) w hg cR hc (by simp[World.frozen?,hT])).mono ?_;rintro e' w'⟨rfl,rfl⟩;refine⟨rfl,?_,?_⟩
 ·refine World.cell?_setCell_same _ _ _ (u:=I O 0) ?_
  rw[World.cell?_alloc_lt _ _ ⟨T,0,M⟩ (by simp;omega),World.cell?_alloc_lt _ _ ⟨T,0,M⟩ (by simp;omega),World.cell?_alloc_lt _ _ ⟨T,0,M⟩ (by simp;omega),World.cell?_alloc_lt _ _ ⟨T,0,M⟩ DX];exact hc
 ·exact(((((Below.refl T w).alloc (by omega) _).alloc (by simp;omega) _).alloc (by simp;omega) _).alloc (by simp;omega) _).setCell (Nat.le_refl _) _
theorem I9(n:Int)(T:Nat)(w:Wd)(hg:wH w)(cR:11<=w.heap.size)(hT:Bk w T #[ρ M] 90) :
  Calls prog 38 #[σ 26 (I O n),σ 92 (ρ (Y ⟨T,0,M⟩))] w fun e' w'=>e'=υ (U false)/\ω w w':=by
 have hc:w.cell? ⟨T,0,M⟩=Y (ρ M):=cell_of hT 0 rfl;refine(Ma n ⟨T,0,M⟩ (ρ M) w hg cR hc).mono ?_;rintro e' w'⟨rfl,rfl⟩;exact⟨rfl,(((Below.refl _ _).alloc (by omega) _).alloc (by simp) _).alloc (by simp;omega) _⟩
theorem KQ(w:Wd):Calls prog 16 #[.nilIface] w fun e w'=>e=υ (φ #[I O 0,I O 0])/\ω w w':=by
 go_enter func16,ntmps16;go_wp2_with fail
 go_ret2
 exact⟨rfl,((Below.refl _ _).alloc (by omega) _).alloc (by simp) _⟩
theorem Cc(a:Int)(w:Wd):Calls prog 39 #[J #[I O a]] w fun e w'=>e=υ (I O a)/\ω w w':=by go_enter func39,ntmps39;go_wp2_with fail;go_ret;exact⟨rfl,(Below.refl _ _).alloc (by omega) _⟩
theorem vL(n:Int)(w:Wd)(hg:wH w)(cR:11<=w.heap.size):Calls prog 16 #[σ 26 (I O n)] w fun e w'=>e=υ (φ #[I O n,I O 0])/\ω w w':=by
 have b1:ω w ((w.alloc (L #[ρ M] 90)).alloc (L #[I O 0] 26)):=((Below.refl _ _).alloc (by omega) _).alloc (by simp) _;have hF:((w.alloc (L #[ρ M] 90)).alloc (L #[I O 0] 26)).heap[w.heap.size]?=Y (L #[ρ M] 90):=by rw[Below.heap_alloc _ _ _ (by simp)];exact heap_alloc_new _ _
 have hN:((w.alloc (L #[ρ M] 90)).alloc (L #[I O 0] 26)).heap[w.heap.size+1]?=Y (L #[I O 0] 26):=by have:=heap_alloc_new (w.alloc (L #[ρ M] 90)) (L #[I O 0] 26);simpa using this
 have D5:=I9 n w.heap.size _ (hg.below b1 cR) (by simp;omega) hF;go_enter func16,ntmps16;go_wp2_with fail;refine D5.mono ?_;rintro e w1⟨rfl,b2⟩;have hN1:w1.heap[w.heap.size+1]?=Y (L #[I O 0] 26):=by rw[b2.block _ (by simp)];exact hN
 have b3:ω w w1:=b1.trans (b2.mono (by simp;omega));have so:=Nu n (w.heap.size+1) w1 (hg.below b3 cR) (by have:=b3.size;omega) hN1;clear D5 hF hN hN1;go_wp2_with fail;refine so.mono ?_;rintro e w2⟨rfl,z8,b4⟩;clear so;go_wp2_with fail
 go_ret2
 exact⟨rfl,b3.trans (b4.mono (by omega))⟩
def zv(w0:Wd)(F N:Nat)(a n:Int)(w:Wd):Prop :=
 w.cell? ⟨F,0,M⟩=Y (ρ (Y ⟨N,0,M⟩))/\w.cell? ⟨N,0,M⟩=Y (I O a)/\w.cell? ⟨N,1,M⟩=Y (I O n)/\ω w0 w
theorem nC{p:Addr}{v:Value}(h:w.cell? p=Y v):p.block<w.heap.size:=by
 rcases Nat.lt_or_ge p.block w.heap.size with k | k
 ·exact k
 ·simp[World.cell?,Array.getElem?_eq_none k]at h
theorem Nj(hb:ω w w')(h:zv w0 F N a n w):zv w0 F N a n w':=by
 obtain⟨h1,h2,h3,h4⟩:=h;refine⟨?_,?_,?_,h4.trans (hb.mono h4.size)⟩
 ·rw[hb.cell (nC h1)];exact h1
 ·rw[hb.cell (nC h2)];exact h2
 ·rw[hb.cell (nC h3)];exact h3
theorem Jb(h:zv w0 F N a n w):ω w0 w:=h.2.2.2
theorem Md(h:zv w0 F N a n w):zv w0 F N a n w.drew:=⟨h.1,h.2.1,h.2.2.1,h.2.2.2.drew⟩
theorem FM(N:Nat)(a n:Int)(w:Wd)(hg:wH w)(cR:11<=w.heap.size)(hN:Bk w N #[I O a,I O n] 96):Calls prog 16 #[σ 90 (ρ (Y ⟨N,0,M⟩))] w fun e w'=>e=υ (φ #[I O n,I O a])/\ω w w':=by
 have hNl:=ad hN;have b1:ω w ((w.alloc (L #[ρ M] 90)).alloc (L #[I O 0] 26)):=((Below.refl _ _).alloc (by omega) _).alloc (by simp) _;have hF:((w.alloc (L #[ρ M] 90)).alloc (L #[I O 0] 26)).heap[w.heap.size]?=Y (L #[ρ M] 90):=by rw[Below.heap_alloc _ _ _ (by simp)];exact heap_alloc_new _ _
 have D5:=Le ⟨N,0,M⟩ w.heap.size _ (hg.below b1 cR) (by simp;omega) hF;go_enter func16,ntmps16;go_wp2_with fail;refine D5.mono ?_;rintro e w1⟨rfl,z8,b2⟩;have b3:ω w w1:=b1.trans b2;have k:zv w w.heap.size N a n w1:=⟨z8,by rw[b3.cell (show N<w.heap.size from hNl)];exact cell_of hN 0 rfl,by rw[b3.cell (show N<w.heap.size from hNl)];exact cell_of hN 1 rfl,b3⟩;have kd:=Md k;clear D5 hF hN z8 b2 b3 b1 k;go_wp2_with fail
 go_region_held3 (fun w':Wd=>w'.cell? ⟨w.heap.size,0,M⟩=Y (ρ (Y ⟨N,0,M⟩))/\w'.cell? ⟨N,0,M⟩=Y (I O a)/\w'.cell? ⟨N,1,M⟩=Y (I O n)/\ω w w') (first | exact kd | assumption | exact Nj (by assumption) (by assumption)) (first | (go_at_call 39;refine(Cc a _).mono ?_;rintro e w1 ⟨rfl,Kv⟩))
 all_goals
  go_wp2_with fail
  go_ret2
  exact⟨rfl,Jb (F:=w.heap.size) (N:=N) (a:=a) (n:=n) (by assumption)⟩
theorem Nx(v:Value)(er:Nat × Nat)(B:Nat)(w:Wd)(hg:wH w)(cR:11<=w.heap.size)(hv:kj w B v er) :
  Calls prog 16 #[v] w fun e w'=>e=υ (φ #[I O er.1,I O er.2])/\ω w w':=by
 rcases hv with⟨rfl,rfl⟩ | ⟨N,_,rfl,hN⟩
 ·exact vL 1 w hg cR
 ·exact FM N er.2 er.1 w hg cR hN
end
section
open Go.ChangeShapes Go.WideShapes Go.ChangeAt Go.RowKit
theorem Zt:prog.globalNamed "invariants/tree.opposites" = Y 4:=by kernel_rfl
theorem Y8:prog.globalNamed "invariants/tree.mirrors" = Y 3:=by kernel_rfl
theorem Zj:(prog.globals[4]?).map (·.type)=Y 403:=by kernel_rfl
theorem Zi:(prog.globals[3]?).map (·.type)=Y 403:=by kernel_rfl
theorem Ms{W:Wd}(h:laidMetH prog Rows.straightRow.laid W):p9 W/\jD W:=by
 have h':laidMet prog [("invariants/tree.opSigns", Rows.laid_invariants_tree_opSigns),("invariants/tree.relationSigns", Rows.laid_invariants_tree_relationSigns),("invariants/tree.opposites", Rows.laid_invariants_tree_opposites),("invariants/tree.mirrors", Rows.laid_invariants_tree_mirrors),("math/bits.deBruijn32tab", Rows.laid_math_bits_deBruijn32tab),("math/bits.deBruijn64tab", Rows.laid_math_bits_deBruijn64tab),("internal/strconv.uint64pow10", Rows.laid_internal_strconv_uint64pow10),("strconv.ErrRange", Rows.laid_strconv_ErrRange),("strconv.ErrSyntax", Rows.laid_strconv_ErrSyntax)] W/\handlesMet prog [("errors.errorType", Rows.laid_errors_errorType)] W:=h;obtain⟨⟨ps,⟨g0,t0,c0,f0,p0,q0,YM,Kb,hv0,Us,⟨g1,t1,c1,f1,p1,q1,NR,ht1,hv1,OA,⟨g2,t2,c2,f2,p2,q2,yK,XP,hv2,Qd,⟨g3,t3,c3,f3,p3,q3,Gt,VM,Tk,UF,⟨g4,t4,c4,f4,p4,q4,Ub,ht4,Yk,UW,⟨g5,t5,c5,f5,p5,q5,Qs,ht5,QC,hd5,⟨g6,t6,c6,f6,p6,q6,Yj,ht6,Xt,hd6,⟨g7,t7,c7,f7,p7,q7,VN,ht7,XK,Yw,⟨g8,t8,c8,f8,p8,q8,hg8,ht8,Gv,hd8,_,_⟩,_⟩,_⟩,_⟩,_⟩,_⟩,_⟩,_⟩,_⟩,_,_⟩,hh⟩:=h';obtain rfl:=Option.some.inj (Zx.symm.trans YM);obtain rfl:=Option.some.inj (Y6.symm.trans Kb);obtain rfl:=Option.some.inj (Vk.symm.trans NR);obtain rfl:=Option.some.inj (U1.symm.trans ht1);obtain rfl:=Option.some.inj (Zt.symm.trans yK);obtain rfl:=Option.some.inj (Zj.symm.trans XP);obtain rfl:=Option.some.inj (Y8.symm.trans Gt);obtain rfl:=Option.some.inj (Zi.symm.trans VM);obtain rfl:=Option.some.inj (Zd.symm.trans Yj);obtain rfl:=Option.some.inj (Zv.symm.trans ht6);obtain rfl:=Option.some.inj (Vf.symm.trans VN);obtain rfl:=Option.some.inj (Vw.symm.trans ht7);obtain rfl:=Option.some.inj (U8.symm.trans hg8);obtain rfl:=Option.some.inj (Vt.symm.trans ht8);have kR:∃tp p,W.cell? ⟨10,0,M⟩=Y (σ tp p):=by obtain⟨_,u,v,hc,_,_⟩:=iface_of_trod underlying23 Yw;exact⟨u,v,by rw[World.var?_cell VN XK 0,Array.eq_one_of_toList hc];rfl⟩
 have kS:∃tp p,W.cell? ⟨9,0,M⟩=Y (σ tp p):=by obtain⟨_,u,v,hc,_,_⟩:=iface_of_trod underlying23 hd8;exact⟨u,v,by rw[World.var?_cell hg8 Gv 0,Array.eq_one_of_toList hc];rfl⟩
 have hcO:=Lib.cells_of_tab (zs:=[4,5,3,2,0,1]) underlying403 underlying230 (by kernel_rfl) (by kernel_rfl) Qd;have hcM:=Lib.cells_of_tab (zs:=[5,4,2,3,1,0]) underlying403 underlying230 (by kernel_rfl) (by kernel_rfl) UF;refine⟨⟨⟨?_,?_,?_,kS,kR,?_⟩,?_⟩,⟨?_,?_⟩⟩
 ·obtain⟨_,_,hc⟩:=kR
  obtain⟨_,_,T8⟩:=kS;have:=nC hc;have:=nC T8;simp at *;omega
 ·intro k hk
  have:=rU (ss:=[[43],[45],[42],[47],[37]]) underlying272 underlying9 (by kernel_rfl) Us k (bo k) (by
   match k,hk with
   | 0,_=>rfl
   | 1,_=>rfl
   | 2,_=>rfl
   | 3,_=>rfl
   | 4,_=>rfl)
  rw[World.var?_cell YM hv0 k,<-this];simp
 ·intro k hk
  have:=rU (ss:=[[60],[60,61],[61,61],[33,61],[62,61],[62]]) underlying273 underlying9 (by kernel_rfl) OA k (aL k) (by
   match k,hk with
   | 0,_=>rfl
   | 1,_=>rfl
   | 2,_=>rfl
   | 3,_=>rfl
   | 4,_=>rfl
   | 5,_=>rfl)
  rw[World.var?_cell NR hv1 k,<-this];simp
 ·unfold Lib.TabIs
  rw[Xt,<-Lib.cells_of_tab (zs:=Lib.pow10Tab) underlying423 underlying416 (by kernel_rfl) (by kernel_rfl) hd6]
 ·obtain⟨name,u,ty,e1,e2,e3,e4,e5⟩:=hh _ (List.mem_singleton.2 rfl)
  have en:name=[101,114,114,111,114]:=(Option.some.inj e1).symm;subst en;obtain rfl:=Option.some.inj (Zr.symm.trans e2);have hm:ty∈(List.range 487).filter fun t=>prog.rowNamed t [101,114,114,111,114]:=List.mem_filter.2 ⟨List.mem_range.2 (by rw[<-Vq];exact e3),e4⟩
  rw[SQ]at hm;obtain rfl:=List.mem_singleton.1 hm;have hh:typeHandle prog 23=ρ (Y ⟨11,23,M⟩):=by kernel_rfl
  rw[hh]at e5;show W.cell? _=_;simpa using World.var?_cell gET e5 0
 ·intro k hk
  rw[World.var?_cell Gt Tk k,<-Array.getElem?_toList,hcM]
  match k,hk with
  | 0,_=>rfl
  | 1,_=>rfl
  | 2,_=>rfl
  | 3,_=>rfl
  | 4,_=>rfl
  | 5,_=>rfl
 ·intro k hk
  rw[World.var?_cell yK hv2 k,<-Array.getElem?_toList,hcO]
  match k,hk with
  | 0,_=>rfl
  | 1,_=>rfl
  | 2,_=>rfl
  | 3,_=>rfl
  | 4,_=>rfl
  | 5,_=>rfl
theorem JC(os:Os)(args:Array Value):laidMetH prog Rows.straightRow.laid ((World.doorLaid prog 400 os).forCall (fun _ _=>0) ⟨#[],args,[]⟩).memory :=
 laidMetH_of_parts3 (fuel:=8) (laidMet_of_run' 8 (by kernel_rfl) (by kernel_rfl)) (by kernel_rfl) (by kernel_rfl)
end
end Go.Proofs.YtiopfihjmkfdmaaGreatDoor
