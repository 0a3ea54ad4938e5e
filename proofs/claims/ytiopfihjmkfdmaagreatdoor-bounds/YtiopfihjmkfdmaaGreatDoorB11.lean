import Derived.Test.YtiopfihjmkfdmaaGreatDoorB9
import Derived.Test.YtiopfihjmkfdmaaGreatDoorB10
import Derived.LaidHandle
import Derived.LaidLaws
import Derived.LaidMore
import Derived.OpenShut
import Derived.ProofKit
import Derived.Stop.Joined
namespace Go.Proofs.YtiopfihjmkfdmaaGreatDoor
open Go.Proofs.Tryz Sp
open Go.RowKit
set_option maxRecDepth 100000
set_option maxHeartbeats 16000000
section
open Go.ChangeShapes Go.WideShapes Go.ChangeAt Go.RowKit
theorem own:ownKnob prog.godebug=none:=by kernel_rfl
theorem gET:prog.globalNamed "errors.errorType" = some 0:=by kernel_rfl
theorem YY:prog.globalNamed "invariants/tree.opSigns" = some 1:=by kernel_rfl
theorem UL:prog.globalNamed "invariants/tree.relationSigns" = some 2:=by kernel_rfl
theorem YX:prog.globalNamed "internal/strconv.uint64pow10" = some 6:=by kernel_rfl
theorem Ve:prog.globalNamed "strconv.ErrRange" = some 10:=by kernel_rfl
theorem U2:prog.globalNamed "strconv.ErrSyntax" = some 9:=by kernel_rfl
theorem Y0:(prog.globals[1]?).map (·.type)=some 272:=by kernel_rfl
theorem UQ:(prog.globals[2]?).map (·.type)=some 273:=by kernel_rfl
theorem YQ:(prog.globals[6]?).map (·.type)=some 423:=by kernel_rfl
theorem US:(prog.globals[10]?).map (·.type)=some 23:=by kernel_rfl
theorem Vh:(prog.globals[9]?).map (·.type)=some 23:=by kernel_rfl
theorem Y9:(prog.cutTypes.find? (·.1 == "internal/reflectlite.rtype")).map (·.2)=some 238:=by kernel_rfl
theorem RJ:((List.range 487).filter fun t=>prog.rowNamed t [101,114,114,111,114])=[23]:=by kernel_rfl
theorem U5:prog.types.size=487:=by kernel_rfl
theorem rE{H:Type}{enc:TypeId × Value->H}{P:Program}{w:Wd}{base:Nat}{sp:Nat->Bool}{held:Bool}{fuel:Nat}{t e:TypeId}{n:Nat}{cs:List Value}{ss:List (List UInt8)}{p:List MemPlace}
  (ht:P.underlying t=some (.array n e)) (he:P.underlying e=some .string) (hce:P.cellsOf e=1)
  (h:DataW.trod enc P w base sp held fuel t cs=some (.agg (ss.map fun s=>.lit (.string s)),p)) (k:Nat) (s:List UInt8) (hk:ss[k]?=some s):cs[k]?=some (.string ⟨s.toArray⟩):=by
 obtain⟨xs,m,rfl,hx,_,hxl,Hh⟩:=DataW.trod_array ht h;simp only[Prod.mk.injEq,DataW.agg.injEq]at hx;have hlen:=congrArg List.length hx.1;simp at hlen;have hkl:k<ss.length:=by
  rcases Nat.lt_or_ge k ss.length with q | q
  ·exact q
  ·rw[List.getElem?_eq_none q]at hk;cases hk
 have XP:k<xs.length:=by omega
 have h1:=Hh k (by omega);rw[List.getElem?_eq_getElem XP,hce]at h1;obtain⟨s',hc,hv,_⟩:=DataW.trod_string he h1;have h2:(xs.map (·.1))[k]?=some (DataW.lit (.string s'.data.toList)):=by simp[List.getElem?_eq_getElem XP,hv]
 rw[<-hx.1]at h2;simp[hk]at h2;have h3:cs[k]?=some (.string s'):=by have:=congrArg (·[0]?) hc;simpa [List.getElem?_take,List.getElem?_drop] using this
 rw[h3,h2]
end
section
open Go.RowKit Go.Extern.Stop Go.Stop Go.Extern
theorem qt(h:Value)(w:Wd):(Go.method 587 238 (.agg #[h]) "Kind").run prog w=.ok (288,h) w:=by kernel_rfl
theorem qd(h:Value)(w:Wd):(Go.method 587 238 (.agg #[h]) "Elem").run prog w=.ok (350,.agg #[h]) w:=by kernel_rfl
theorem iI(h:Value)(w:Wd):(Go.method 587 238 (.agg #[h]) "Implements").run prog w=.ok (351,.agg #[h]) w:=by kernel_rfl
theorem gP(h:Value)(w:Wd):(Go.method 587 238 (.agg #[h]) "AssignableTo").run prog w=.ok (348,.agg #[h]) w:=by kernel_rfl
theorem yN(t:Addr)(w:Wd):(ReflectliteValue.unpack (.iface 92 (.pointer (some t)))).run prog w
  = .ok (.agg #[.pointer (some ⟨11,92,none⟩),.pointer (some ⟨w.heap.size,0,none⟩),.int .u64 150]) (w.alloc (.cells #[.pointer (some t)] 92)):=by kernel_rfl
theorem KR(a:Addr)(w:Wd):(ReflectliteValue.methodAny (ReflectliteValue.valueError "reflectlite.Value.Type" 0) (fun t _ _ _=>ReflectliteType.toType t) #[.agg #[.pointer (some ⟨11,92,none⟩),.pointer (some a),.int .u64 150]]).run prog w
  = .ok (.iface 238 (.agg #[.pointer (some ⟨11,92,none⟩)])) w:=by kernel_rfl
theorem Md(w:Wd):((ReflectliteType.abiMethod fun t=>(fun a:Nat=>Value.int IntKind.u8 (a:Int)) <$> Rtype.kind t) #[.pointer (some ⟨11,92,none⟩)]).run prog w=.ok (.int .u8 22) w:=by kernel_rfl
theorem Qv(w:Wd):((ReflectliteType.abiMethod fun t=>(fun a:Nat=>Value.int IntKind.u8 (a:Int)) <$> Rtype.kind t) #[.pointer (some ⟨11,90,none⟩)]).run prog w=.ok (.int .u8 22) w:=by kernel_rfl
theorem Gz(a:Addr)(w:Wd):(ReflectliteValue.parts (.agg #[.pointer (some ⟨11,92,none⟩),.pointer (some a),.int .u64 150])).run prog w=.ok (some (92,a,150)) w:=by kernel_rfl
theorem GM(a p:Addr)(W:Wd)(ha:W.cell? a=some (.pointer (some p))) :
  (ReflectliteValue.method (ReflectliteValue.valueError "reflectlite.Value.IsNil" 0) ReflectliteValue.isNil #[.agg #[.pointer (some ⟨11,92,none⟩),.pointer (some a),.int .u64 150]]).run prog W=.ok (.bool false) W:=by
 change (ReflectliteValue.parts (.agg #[.pointer (some ⟨11,92,none⟩),.pointer (some a),.int .u64 150]) >>= _).run prog W=_;simp only[Sem.run_bind,Gz,Result.andThen];simp[ReflectliteValue.isNil,loadVar,isAgg,underlying,underlying92,ha,Result.andThen]
theorem Lp(w:Wd):(ReflectliteType.method ReflectliteType.elem #[.agg #[.pointer (some ⟨11,92,none⟩)]]).run prog w=.ok (.iface 238 (.agg #[.pointer (some ⟨11,90,none⟩)])) w:=by kernel_rfl
theorem Qs(w:Wd):(ReflectliteType.relation "Implements" ReflectliteType.implements_ #[.agg #[.pointer (some ⟨11,90,none⟩)],.iface 238 (.agg #[.pointer (some ⟨11,23,none⟩)])]).run prog w=.ok (.bool true) w:=by kernel_rfl
theorem PS(v:Value)(w:Wd):(ReflectliteType.typeOf #[.iface 90 v]).run prog w=.ok (.iface 238 (.agg #[.pointer (some ⟨11,90,none⟩)])) w:=by kernel_rfl
theorem GQ(v:Value)(w:Wd):(ReflectliteType.typeOf #[.iface 26 v]).run prog w=.ok (.iface 238 (.agg #[.pointer (some ⟨11,26,none⟩)])) w:=by kernel_rfl
theorem Oj(w:Wd):(ReflectliteType.relation "AssignableTo" ReflectliteType.assignableTo #[.agg #[.pointer (some ⟨11,90,none⟩)],.iface 238 (.agg #[.pointer (some ⟨11,90,none⟩)])]).run prog w=.ok (.bool true) w:=by kernel_rfl
theorem Mc(w:Wd):(ReflectliteType.relation "AssignableTo" ReflectliteType.assignableTo #[.agg #[.pointer (some ⟨11,26,none⟩)],.iface 238 (.agg #[.pointer (some ⟨11,90,none⟩)])]).run prog w=.ok (.bool false) w:=by kernel_rfl
theorem Pl(w:Wd):(ReflectliteType.relation "AssignableTo" ReflectliteType.assignableTo #[.agg #[.pointer (some ⟨11,26,none⟩)],.iface 238 (.agg #[.pointer (some ⟨11,26,none⟩)])]).run prog w=.ok (.bool true) w:=by kernel_rfl
theorem KT(e:Addr)(w:Wd):(ReflectliteValue.unpack (.iface 90 (.pointer (some e)))).run prog w
  = .ok (.agg #[.pointer (some ⟨11,90,none⟩),.pointer (some ⟨w.heap.size,0,none⟩),.int .u64 150]) (w.alloc (.cells #[.pointer (some e)] 90)):=by kernel_rfl
theorem Nk(w:Wd):(Rtype.elem? 92).run prog w=.ok (some 90) w:=by kernel_rfl
theorem mkF(p:Addr)(w:Wd):(ReflectliteValue.mk 90 p ReflectliteValue.flagAddr).run prog w=.ok (.agg #[.pointer (some ⟨11,90,none⟩),.pointer (some p),.int .u64 406]) w:=by kernel_rfl
theorem Pa(a p:Addr)(W:Wd)(ha:W.cell? a=some (.pointer (some p))) :
  (ReflectliteValue.method (ReflectliteValue.valueError "reflectlite.Value.Elem" 0) ReflectliteValue.elem #[.agg #[.pointer (some ⟨11,92,none⟩),.pointer (some a),.int .u64 150]]).run prog W
    = .ok (.agg #[.pointer (some ⟨11,90,none⟩),.pointer (some p),.int .u64 406]) W:=by
 change (ReflectliteValue.parts (.agg #[.pointer (some ⟨11,92,none⟩),.pointer (some a),.int .u64 150]) >>= _).run prog W=_;simp only[Sem.run_bind,Gz,Result.andThen];simp[ReflectliteValue.elem,loadVar,isAgg,underlying,underlying92,ha,Result.andThen,Nk,mkF]
theorem OK(a:Addr)(w:Wd):(ReflectliteValue.parts (.agg #[.pointer (some ⟨11,90,none⟩),.pointer (some a),.int .u64 406])).run prog w=.ok (some (90,a,406)) w:=by kernel_rfl
theorem RB(a:Addr)(w:Wd):(ReflectliteValue.parts (.agg #[.pointer (some ⟨11,90,none⟩),.pointer (some a),.int .u64 150])).run prog w=.ok (some (90,a,150)) w:=by kernel_rfl
theorem Pf(w:Wd):(Rtype.directlyAssignable 90 90).run prog w=.ok true w:=by kernel_rfl
theorem YP(ta b e:Addr)(old:Value)(W:Wd)(hb:W.cell? b=some (.pointer (some e)))(ht:W.cell? ta=some old)(hf:W.frozen? ta=false) :
  (ReflectliteValue.set #[.agg #[.pointer (some ⟨11,90,none⟩),.pointer (some ta),.int .u64 406],.agg #[.pointer (some ⟨11,90,none⟩),.pointer (some b),.int .u64 150]]).run prog W
    = .ok (.tuple #[]) (W.setCell ta (.pointer (some e))):=by
 change (ReflectliteValue.parts (.agg #[.pointer (some ⟨11,90,none⟩),.pointer (some ta),.int .u64 406]) >>= fun _=>ReflectliteValue.parts (.agg #[.pointer (some ⟨11,90,none⟩),.pointer (some b),.int .u64 150]) >>= _).run prog W=_;simp only[Sem.run_bind,OK,RB,Result.andThen];simp[ReflectliteValue.flagAddr,loadVar,isAgg,underlying,underlying90,hb,Result.andThen,Pf,storeVar,Value.cells,storeCells,Addr.add];rw[run_store prog W ta _ _ (by rfl)];simp[ht,hf]
theorem IE(t:Addr)(w:Wd):(ReflectliteValue.unpack (.iface 98 (.pointer (some t)))).run prog w
  = .ok (.agg #[.pointer (some ⟨11,98,none⟩),.pointer (some ⟨w.heap.size,0,none⟩),.int .u64 150]) (w.alloc (.cells #[.pointer (some t)] 98)):=by kernel_rfl
theorem RL(a:Addr)(w:Wd):(ReflectliteValue.methodAny (ReflectliteValue.valueError "reflectlite.Value.Type" 0) (fun t _ _ _=>ReflectliteType.toType t) #[.agg #[.pointer (some ⟨11,98,none⟩),.pointer (some a),.int .u64 150]]).run prog w
  = .ok (.iface 238 (.agg #[.pointer (some ⟨11,98,none⟩)])) w:=by kernel_rfl
theorem Sn(w:Wd):((ReflectliteType.abiMethod fun t=>(fun a:Nat=>Value.int IntKind.u8 (a:Int)) <$> Rtype.kind t) #[.pointer (some ⟨11,98,none⟩)]).run prog w=.ok (.int .u8 22) w:=by kernel_rfl
theorem UZ(w:Wd):((ReflectliteType.abiMethod fun t=>(fun a:Nat=>Value.int IntKind.u8 (a:Int)) <$> Rtype.kind t) #[.pointer (some ⟨11,26,none⟩)]).run prog w=.ok (.int .u8 2) w:=by kernel_rfl
theorem GY(a:Addr)(w:Wd):(ReflectliteValue.parts (.agg #[.pointer (some ⟨11,98,none⟩),.pointer (some a),.int .u64 150])).run prog w=.ok (some (98,a,150)) w:=by kernel_rfl
theorem Pk(a p:Addr)(W:Wd)(ha:W.cell? a=some (.pointer (some p))) :
  (ReflectliteValue.method (ReflectliteValue.valueError "reflectlite.Value.IsNil" 0) ReflectliteValue.isNil #[.agg #[.pointer (some ⟨11,98,none⟩),.pointer (some a),.int .u64 150]]).run prog W=.ok (.bool false) W:=by
 change (ReflectliteValue.parts (.agg #[.pointer (some ⟨11,98,none⟩),.pointer (some a),.int .u64 150]) >>= _).run prog W=_;simp only[Sem.run_bind,GY,Result.andThen];simp[ReflectliteValue.isNil,loadVar,isAgg,underlying,underlying98,ha,Result.andThen]
theorem RT(w:Wd):(ReflectliteType.method ReflectliteType.elem #[.agg #[.pointer (some ⟨11,98,none⟩)]]).run prog w=.ok (.iface 238 (.agg #[.pointer (some ⟨11,26,none⟩)])) w:=by kernel_rfl
theorem U9(w:Wd):(ReflectliteType.relation "Implements" ReflectliteType.implements_ #[.agg #[.pointer (some ⟨11,26,none⟩)],.iface 238 (.agg #[.pointer (some ⟨11,23,none⟩)])]).run prog w=.ok (.bool true) w:=by kernel_rfl
theorem KP(n:Int)(w:Wd):(ReflectliteValue.unpack (.iface 26 (.int .i64 n))).run prog w
  = .ok (.agg #[.pointer (some ⟨11,26,none⟩),.pointer (some ⟨w.heap.size,0,none⟩),.int .u64 130]) (w.alloc (.cells #[.int .i64 n] 26)):=by kernel_rfl
theorem LX(w:Wd):(Rtype.elem? 98).run prog w=.ok (some 26) w:=by kernel_rfl
theorem mkE(p:Addr)(w:Wd):(ReflectliteValue.mk 26 p ReflectliteValue.flagAddr).run prog w=.ok (.agg #[.pointer (some ⟨11,26,none⟩),.pointer (some p),.int .u64 386]) w:=by kernel_rfl
theorem O8(a p:Addr)(W:Wd)(ha:W.cell? a=some (.pointer (some p))) :
  (ReflectliteValue.method (ReflectliteValue.valueError "reflectlite.Value.Elem" 0) ReflectliteValue.elem #[.agg #[.pointer (some ⟨11,98,none⟩),.pointer (some a),.int .u64 150]]).run prog W
    = .ok (.agg #[.pointer (some ⟨11,26,none⟩),.pointer (some p),.int .u64 386]) W:=by
 change (ReflectliteValue.parts (.agg #[.pointer (some ⟨11,98,none⟩),.pointer (some a),.int .u64 150]) >>= _).run prog W=_;simp only[Sem.run_bind,GY,Result.andThen];simp[ReflectliteValue.elem,loadVar,isAgg,underlying,underlying98,ha,Result.andThen,LX,mkE]
theorem Pq(a:Addr)(w:Wd):(ReflectliteValue.parts (.agg #[.pointer (some ⟨11,26,none⟩),.pointer (some a),.int .u64 386])).run prog w=.ok (some (26,a,386)) w:=by kernel_rfl
theorem SH(a:Addr)(w:Wd):(ReflectliteValue.parts (.agg #[.pointer (some ⟨11,26,none⟩),.pointer (some a),.int .u64 130])).run prog w=.ok (some (26,a,130)) w:=by kernel_rfl
theorem Pu(w:Wd):(Rtype.directlyAssignable 26 26).run prog w=.ok true w:=by kernel_rfl
theorem Y6(ta b:Addr)(n:Int)(old:Value)(W:Wd)(hb:W.cell? b=some (.int .i64 n))(ht:W.cell? ta=some old)(hf:W.frozen? ta=false) :
  (ReflectliteValue.set #[.agg #[.pointer (some ⟨11,26,none⟩),.pointer (some ta),.int .u64 386],.agg #[.pointer (some ⟨11,26,none⟩),.pointer (some b),.int .u64 130]]).run prog W
    = .ok (.tuple #[]) (W.setCell ta (.int .i64 n)):=by
 change (ReflectliteValue.parts (.agg #[.pointer (some ⟨11,26,none⟩),.pointer (some ta),.int .u64 386]) >>= fun _=>ReflectliteValue.parts (.agg #[.pointer (some ⟨11,26,none⟩),.pointer (some b),.int .u64 130]) >>= _).run prog W=_;simp only[Sem.run_bind,Pq,SH,Result.andThen];simp[ReflectliteValue.flagAddr,loadVar,isAgg,underlying,underlying26,hb,Result.andThen,Pu,storeVar,Value.cells,storeCells,Addr.add];rw[run_store prog W ta _ _ (by rfl)];simp[ht,hf]
end
section
open Go.RowKit Go.Extern.Stop Go.Stop Go.Extern
theorem Y2(v:Value)(xT:TypeId)(w:Wd):(Instr.typeAssert (.iface 26 v) xT 243 true).run prog w=.ok (.tuple #[.nilIface,.bool false]) w:=run_typeAssert_lacksB underlying243 (by kernel_rfl) (by kernel_rfl) v xT w
theorem Y3(v:Value)(xT:TypeId)(w:Wd):(Instr.typeAssert (.iface 26 v) xT 246 true).run prog w=.ok (.tuple #[.nilIface,.bool false]) w:=run_typeAssert_lacksB underlying246 (by kernel_rfl) (by kernel_rfl) v xT w
theorem Vd(v:Value)(xT:TypeId)(w:Wd):(Instr.typeAssert (.iface 26 v) xT 248 true).run prog w=.ok (.tuple #[.nilIface,.bool false]) w:=run_typeAssert_lacksB underlying248 (by kernel_rfl) (by kernel_rfl) v xT w
theorem O6(e:Addr)(t:Addr)(old:Value)(w:Wd)(hg:w.cell? ⟨0,0,none⟩=some (.iface 238 (.agg #[.pointer (some ⟨11,23,none⟩)])))(dj:11<=w.heap.size)(P7:w.cell? t=some old)(hf0:w.frozen? t=false) :
  Calls prog 38 #[.iface 90 (.pointer (some e)),.iface 92 (.pointer (some t))] w fun e' w'=>e'=.returned (.bool true)/\w'=((((w.alloc (.cells #[.pointer (some t)] 92)).alloc (.cells #[.pointer (some ⟨11,92,none⟩),.pointer (some ⟨w.heap.size,0,none⟩),.int .u64 150] 161)).alloc (.cells #[.pointer (some ⟨11,92,none⟩),.pointer (some ⟨w.heap.size,0,none⟩),.int .u64 150] 161)).alloc (.cells #[.pointer (some e)] 90)).setCell t (.pointer (some e)):=by
 have h6:=@run_callFunc_extern prog 61 _ (fun args=>ReflectliteValue.unpack (args.getD 0 (.tuple #[]))) func61 (by kernel_rfl) (by kernel_rfl) (by kernel_rfl) (by kernel_rfl);have h7:=@run_callFunc_extern prog 62 _ (ReflectliteValue.methodAny (ReflectliteValue.valueError "reflectlite.Value.Type" 0) (fun t _ _ _=>ReflectliteType.toType t)) func62 (by kernel_rfl) (by kernel_rfl) (by kernel_rfl) (by kernel_rfl);have h8:=@run_callFunc_extern prog 63 _ (ReflectliteValue.method (ReflectliteValue.valueError "reflectlite.Value.IsNil" 0) ReflectliteValue.isNil) func63 (by kernel_rfl) (by kernel_rfl) (by kernel_rfl) (by kernel_rfl);have h27:=@run_callFunc_extern prog 288 _ (ReflectliteType.abiMethod fun t=>do pure (.int .u8 (<-Rtype.kind t))) func288 (by kernel_rfl) (by kernel_rfl) (by kernel_rfl) (by kernel_rfl);have h37:=@run_callFunc_extern prog 350 _ (ReflectliteType.method ReflectliteType.elem) func350 (by kernel_rfl) (by kernel_rfl) (by kernel_rfl) (by kernel_rfl);have h38:=@run_callFunc_extern prog 351 _ (ReflectliteType.relation "Implements" ReflectliteType.implements_) func351 (by kernel_rfl) (by kernel_rfl) (by kernel_rfl) (by kernel_rfl);have hY:=@run_callFunc_extern prog 92 _ ReflectliteType.typeOf func92 (by kernel_rfl) (by kernel_rfl) (by kernel_rfl) (by kernel_rfl);have h35:=@run_callFunc_extern prog 348 _ (ReflectliteType.relation "AssignableTo" ReflectliteType.assignableTo) func348 (by kernel_rfl) (by kernel_rfl) (by kernel_rfl) (by kernel_rfl);have tK:=@run_callFunc_extern prog 93 _ (ReflectliteValue.method (ReflectliteValue.valueError "reflectlite.Value.Elem" 0) ReflectliteValue.elem) func93 (by kernel_rfl) (by kernel_rfl) (by kernel_rfl) (by kernel_rfl);have rR:=@run_callFunc_extern prog 94 _ ReflectliteValue.set func94 (by kernel_rfl) (by kernel_rfl) (by kernel_rfl) (by kernel_rfl);have mK:=qt;have mE:=qd;have mI:=iI;have mA:=gP;have f6:=yN;have f7:=KR;have kP:=Md;have kN:=Qv;have eP:=Lp;have iN:=Qs;have tO:=PS;have aE:=Oj;have vE:=KT;have n8:=GM ⟨w.heap.size,0,none⟩ t ((w.alloc (.cells #[.pointer (some t)] 92)).alloc (.cells #[.pointer (some ⟨11,92,none⟩),.pointer (some ⟨w.heap.size,0,none⟩),.int .u64 150] 161)) (by simp);have Bp:((w.alloc (.cells #[.pointer (some t)] 92)).alloc (.cells #[.pointer (some ⟨11,92,none⟩),.pointer (some ⟨w.heap.size,0,none⟩),.int .u64 150] 161)).cell? ⟨0,0,none⟩=some (.iface 238 (.agg #[.pointer (some ⟨11,23,none⟩)])):=by rw[World.cell?_alloc_lt _ _ ⟨0,0,none⟩ (by simp<;>omega),World.cell?_alloc_lt _ _ ⟨0,0,none⟩ (show 0<w.heap.size by omega)];exact hg
 have Kl:t.block<w.heap.size:=by
  rcases Nat.lt_or_ge t.block w.heap.size with h | h
  ·exact h
  ·simp[World.cell?,Array.getElem?_eq_none h]at P7
 have el:=Pa ⟨w.heap.size,0,none⟩ t (((w.alloc (.cells #[.pointer (some t)] 92)).alloc (.cells #[.pointer (some ⟨11,92,none⟩),.pointer (some ⟨w.heap.size,0,none⟩),.int .u64 150] 161)).alloc (.cells #[.pointer (some ⟨11,92,none⟩),.pointer (some ⟨w.heap.size,0,none⟩),.int .u64 150] 161)) (by rw[World.cell?_alloc_lt _ _ ⟨w.heap.size,0,none⟩ (by simp;omega)];simp);have st:=YP t ⟨w.heap.size+1+1+1,0,none⟩ e old ((((w.alloc (.cells #[.pointer (some t)] 92)).alloc (.cells #[.pointer (some ⟨11,92,none⟩),.pointer (some ⟨w.heap.size,0,none⟩),.int .u64 150] 161)).alloc (.cells #[.pointer (some ⟨11,92,none⟩),.pointer (some ⟨w.heap.size,0,none⟩),.int .u64 150] 161)).alloc (.cells #[.pointer (some e)] 90))
  (by rw[World.cell?_alloc_at _ _ _ _ (by simp)];rfl)
  (by rw[World.cell?_alloc_lt _ _ t (by simp;omega),World.cell?_alloc_lt _ _ t (by simp;omega),World.cell?_alloc_lt _ _ t (by simp;omega),World.cell?_alloc_lt _ _ t Kl];exact P7)
  (by rw[World.frozen?_alloc_old _ _ t (by simp;omega),World.frozen?_alloc_old _ _ t (by simp;omega),World.frozen?_alloc_old _ _ t (by simp;omega),World.frozen?_alloc_old _ _ t (Nat.ne_of_lt Kl)];exact hf0)
 go_enter func38,ntmps38
 go_wp2
 refine wp_loop_rounds 1 ?_;rw[rounds_succ]
 go_wp2
 go_ret;exact⟨rfl,rfl⟩
theorem OR(n:Int)(t:Addr)(old:Value)(w:Wd)(hg:w.cell? ⟨0,0,none⟩=some (.iface 238 (.agg #[.pointer (some ⟨11,23,none⟩)])))(dj:11<=w.heap.size)(P7:w.cell? t=some old)(hf0:w.frozen? t=false) :
  Calls prog 38 #[.iface 26 (.int .i64 n),.iface 98 (.pointer (some t))] w fun e' w'=>e'=.returned (.bool true)/\w'=((((w.alloc (.cells #[.pointer (some t)] 98)).alloc (.cells #[.pointer (some ⟨11,98,none⟩),.pointer (some ⟨w.heap.size,0,none⟩),.int .u64 150] 161)).alloc (.cells #[.pointer (some ⟨11,98,none⟩),.pointer (some ⟨w.heap.size,0,none⟩),.int .u64 150] 161)).alloc (.cells #[.int .i64 n] 26)).setCell t (.int .i64 n):=by
 have h6:=@run_callFunc_extern prog 61 _ (fun args=>ReflectliteValue.unpack (args.getD 0 (.tuple #[]))) func61 (by kernel_rfl) (by kernel_rfl) (by kernel_rfl) (by kernel_rfl);have h7:=@run_callFunc_extern prog 62 _ (ReflectliteValue.methodAny (ReflectliteValue.valueError "reflectlite.Value.Type" 0) (fun t _ _ _=>ReflectliteType.toType t)) func62 (by kernel_rfl) (by kernel_rfl) (by kernel_rfl) (by kernel_rfl);have h8:=@run_callFunc_extern prog 63 _ (ReflectliteValue.method (ReflectliteValue.valueError "reflectlite.Value.IsNil" 0) ReflectliteValue.isNil) func63 (by kernel_rfl) (by kernel_rfl) (by kernel_rfl) (by kernel_rfl);have h27:=@run_callFunc_extern prog 288 _ (ReflectliteType.abiMethod fun t=>do pure (.int .u8 (<-Rtype.kind t))) func288 (by kernel_rfl) (by kernel_rfl) (by kernel_rfl) (by kernel_rfl);have h37:=@run_callFunc_extern prog 350 _ (ReflectliteType.method ReflectliteType.elem) func350 (by kernel_rfl) (by kernel_rfl) (by kernel_rfl) (by kernel_rfl);have h38:=@run_callFunc_extern prog 351 _ (ReflectliteType.relation "Implements" ReflectliteType.implements_) func351 (by kernel_rfl) (by kernel_rfl) (by kernel_rfl) (by kernel_rfl);have hY:=@run_callFunc_extern prog 92 _ ReflectliteType.typeOf func92 (by kernel_rfl) (by kernel_rfl) (by kernel_rfl) (by kernel_rfl);have h35:=@run_callFunc_extern prog 348 _ (ReflectliteType.relation "AssignableTo" ReflectliteType.assignableTo) func348 (by kernel_rfl) (by kernel_rfl) (by kernel_rfl) (by kernel_rfl);have tK:=@run_callFunc_extern prog 93 _ (ReflectliteValue.method (ReflectliteValue.valueError "reflectlite.Value.Elem" 0) ReflectliteValue.elem) func93 (by kernel_rfl) (by kernel_rfl) (by kernel_rfl) (by kernel_rfl);have rR:=@run_callFunc_extern prog 94 _ ReflectliteValue.set func94 (by kernel_rfl) (by kernel_rfl) (by kernel_rfl) (by kernel_rfl);have mK:=qt;have mE:=qd;have mI:=iI;have mA:=gP;have f6:=IE;have f7:=RL;have kP:=Sn;have kN:=UZ;have eP:=RT;have iN:=U9;have tO:=GQ;have aE:=Pl;have vE:=KP;have n8:=Pk ⟨w.heap.size,0,none⟩ t ((w.alloc (.cells #[.pointer (some t)] 98)).alloc (.cells #[.pointer (some ⟨11,98,none⟩),.pointer (some ⟨w.heap.size,0,none⟩),.int .u64 150] 161)) (by simp);have Bp:((w.alloc (.cells #[.pointer (some t)] 98)).alloc (.cells #[.pointer (some ⟨11,98,none⟩),.pointer (some ⟨w.heap.size,0,none⟩),.int .u64 150] 161)).cell? ⟨0,0,none⟩=some (.iface 238 (.agg #[.pointer (some ⟨11,23,none⟩)])):=by rw[World.cell?_alloc_lt _ _ ⟨0,0,none⟩ (by simp<;>omega),World.cell?_alloc_lt _ _ ⟨0,0,none⟩ (show 0<w.heap.size by omega)];exact hg
 have Kl:t.block<w.heap.size:=by
  rcases Nat.lt_or_ge t.block w.heap.size with h | h
  ·exact h
  ·simp[World.cell?,Array.getElem?_eq_none h]at P7
 have el:=O8 ⟨w.heap.size,0,none⟩ t (((w.alloc (.cells #[.pointer (some t)] 98)).alloc (.cells #[.pointer (some ⟨11,98,none⟩),.pointer (some ⟨w.heap.size,0,none⟩),.int .u64 150] 161)).alloc (.cells #[.pointer (some ⟨11,98,none⟩),.pointer (some ⟨w.heap.size,0,none⟩),.int .u64 150] 161)) (by rw[World.cell?_alloc_lt _ _ ⟨w.heap.size,0,none⟩ (by simp;omega)];simp);have st:=Y6 t ⟨w.heap.size+1+1+1,0,none⟩ n old ((((w.alloc (.cells #[.pointer (some t)] 98)).alloc (.cells #[.pointer (some ⟨11,98,none⟩),.pointer (some ⟨w.heap.size,0,none⟩),.int .u64 150] 161)).alloc (.cells #[.pointer (some ⟨11,98,none⟩),.pointer (some ⟨w.heap.size,0,none⟩),.int .u64 150] 161)).alloc (.cells #[.int .i64 n] 26))
  (by rw[World.cell?_alloc_at _ _ _ _ (by simp)];rfl)
  (by rw[World.cell?_alloc_lt _ _ t (by simp;omega),World.cell?_alloc_lt _ _ t (by simp;omega),World.cell?_alloc_lt _ _ t (by simp;omega),World.cell?_alloc_lt _ _ t Kl];exact P7)
  (by rw[World.frozen?_alloc_old _ _ t (by simp;omega),World.frozen?_alloc_old _ _ t (by simp;omega),World.frozen?_alloc_old _ _ t (by simp;omega),World.frozen?_alloc_old _ _ t (Nat.ne_of_lt Kl)];exact hf0)
 go_enter func38,ntmps38
 go_wp2
 refine wp_loop_rounds 1 ?_;rw[rounds_succ]
 go_wp2
 go_ret;exact⟨rfl,rfl⟩
theorem LH(n:Int)(t:Addr)(old:Value)(w:Wd)(hg:w.cell? ⟨0,0,none⟩=some (.iface 238 (.agg #[.pointer (some ⟨11,23,none⟩)])))(dj:11<=w.heap.size)(P7:w.cell? t=some old) :
  Calls prog 38 #[.iface 26 (.int .i64 n),.iface 92 (.pointer (some t))] w fun e' w'=>e'=.returned (.bool false)/\w'=(((w.alloc (.cells #[.pointer (some t)] 92)).alloc (.cells #[.pointer (some ⟨11,92,none⟩),.pointer (some ⟨w.heap.size,0,none⟩),.int .u64 150] 161)).alloc (.cells #[.pointer (some ⟨11,92,none⟩),.pointer (some ⟨w.heap.size,0,none⟩),.int .u64 150] 161)):=by
 have h6:=@run_callFunc_extern prog 61 _ (fun args=>ReflectliteValue.unpack (args.getD 0 (.tuple #[]))) func61 (by kernel_rfl) (by kernel_rfl) (by kernel_rfl) (by kernel_rfl);have h7:=@run_callFunc_extern prog 62 _ (ReflectliteValue.methodAny (ReflectliteValue.valueError "reflectlite.Value.Type" 0) (fun t _ _ _=>ReflectliteType.toType t)) func62 (by kernel_rfl) (by kernel_rfl) (by kernel_rfl) (by kernel_rfl);have h8:=@run_callFunc_extern prog 63 _ (ReflectliteValue.method (ReflectliteValue.valueError "reflectlite.Value.IsNil" 0) ReflectliteValue.isNil) func63 (by kernel_rfl) (by kernel_rfl) (by kernel_rfl) (by kernel_rfl);have h27:=@run_callFunc_extern prog 288 _ (ReflectliteType.abiMethod fun t=>do pure (.int .u8 (<-Rtype.kind t))) func288 (by kernel_rfl) (by kernel_rfl) (by kernel_rfl) (by kernel_rfl);have h37:=@run_callFunc_extern prog 350 _ (ReflectliteType.method ReflectliteType.elem) func350 (by kernel_rfl) (by kernel_rfl) (by kernel_rfl) (by kernel_rfl);have h38:=@run_callFunc_extern prog 351 _ (ReflectliteType.relation "Implements" ReflectliteType.implements_) func351 (by kernel_rfl) (by kernel_rfl) (by kernel_rfl) (by kernel_rfl);have hY:=@run_callFunc_extern prog 92 _ ReflectliteType.typeOf func92 (by kernel_rfl) (by kernel_rfl) (by kernel_rfl) (by kernel_rfl);have h35:=@run_callFunc_extern prog 348 _ (ReflectliteType.relation "AssignableTo" ReflectliteType.assignableTo) func348 (by kernel_rfl) (by kernel_rfl) (by kernel_rfl) (by kernel_rfl);have tK:=@run_callFunc_extern prog 93 _ (ReflectliteValue.method (ReflectliteValue.valueError "reflectlite.Value.Elem" 0) ReflectliteValue.elem) func93 (by kernel_rfl) (by kernel_rfl) (by kernel_rfl) (by kernel_rfl);have rR:=@run_callFunc_extern prog 94 _ ReflectliteValue.set func94 (by kernel_rfl) (by kernel_rfl) (by kernel_rfl) (by kernel_rfl);have mK:=qt;have mE:=qd;have mI:=iI;have mA:=gP;have f6:=yN;have f7:=KR;have kP:=Md;have kN:=Qv;have eP:=Lp;have iN:=Qs;have tO:=GQ;have aE:=Mc;have n1:=Y2;have n2:=Y3;have n3:=Vd;have n8:=GM ⟨w.heap.size,0,none⟩ t ((w.alloc (.cells #[.pointer (some t)] 92)).alloc (.cells #[.pointer (some ⟨11,92,none⟩),.pointer (some ⟨w.heap.size,0,none⟩),.int .u64 150] 161)) (by simp);have Bp:((w.alloc (.cells #[.pointer (some t)] 92)).alloc (.cells #[.pointer (some ⟨11,92,none⟩),.pointer (some ⟨w.heap.size,0,none⟩),.int .u64 150] 161)).cell? ⟨0,0,none⟩=some (.iface 238 (.agg #[.pointer (some ⟨11,23,none⟩)])):=by rw[World.cell?_alloc_lt _ _ ⟨0,0,none⟩ (by simp<;>omega),World.cell?_alloc_lt _ _ ⟨0,0,none⟩ (show 0<w.heap.size by omega)];exact hg
 have Kl:t.block<w.heap.size:=by
  rcases Nat.lt_or_ge t.block w.heap.size with h | h
  ·exact h
  ·simp[World.cell?,Array.getElem?_eq_none h]at P7
 go_enter func38,ntmps38
 go_wp2
 refine wp_loop_rounds 1 ?_;rw[rounds_succ]
 go_wp2
 go_ret;exact⟨rfl,rfl⟩
end
section
variable{w w' w0:Wd}
variable{B F N:Nat}
variable{a n:Int}
def vP(w:Wd):Prop:=w.cell? ⟨0,0,none⟩=some (.iface 238 (.agg #[.pointer (some ⟨11,23,none⟩)]))
structure rj(w:Wd):Prop where
 laid:Laid w
 et:vP w
theorem vP.below(h:vP w)(hb:Below B w w')(hB:11<=B):vP w':=by unfold vP;rw[hb.cell (show 0<B by omega)];exact h
theorem rj.below(h:rj w)(hb:Below B w w')(hB:11<=B):rj w' :=
 ⟨h.laid.below hb hB,h.et.below hb hB⟩
theorem LB(e:Addr)(T:Nat)(w:Wd)(hg:vP w)(dj:11<=w.heap.size)(hT:Bk w T #[.pointer none] 90) :
  Calls prog 38 #[.iface 90 (.pointer (some e)),.iface 92 (.pointer (some ⟨T,0,none⟩))] w fun e' w'=>e'=.returned (.bool true)/\w'.cell? ⟨T,0,none⟩=some (.pointer (some e))/\Below T w w':=by
 have DE:=ah hT;have hc:w.cell? ⟨T,0,none⟩=some (.pointer none):=cell_of hT 0 rfl;refine(O6 e ⟨T,0,none⟩ (.pointer none) w hg dj hc (by simp[World.frozen?,hT])).mono ?_;rintro e' w'⟨rfl,rfl⟩;refine⟨rfl,?_,?_⟩
 ·refine World.cell?_setCell_same _ _ _ (u:=.pointer none) ?_
  rw[World.cell?_alloc_lt _ _ ⟨T,0,none⟩ (by simp;omega),World.cell?_alloc_lt _ _ ⟨T,0,none⟩ (by simp;omega),World.cell?_alloc_lt _ _ ⟨T,0,none⟩ (by simp;omega),World.cell?_alloc_lt _ _ ⟨T,0,none⟩ DE];exact hc
 ·exact(((((Below.refl T w).alloc (by omega) _).alloc (by simp;omega) _).alloc (by simp;omega) _).alloc (by simp;omega) _).setCell (Nat.le_refl _) _
theorem KQ(n:Int)(T:Nat)(w:Wd)(hg:vP w)(dj:11<=w.heap.size)(hT:Bk w T #[.int .i64 0] 26) :
  Calls prog 38 #[.iface 26 (.int .i64 n),.iface 98 (.pointer (some ⟨T,0,none⟩))] w fun e' w'=>e'=.returned (.bool true)/\w'.cell? ⟨T,0,none⟩=some (.int .i64 n)/\Below T w w':=by
 have DE:=ah hT;have hc:w.cell? ⟨T,0,none⟩=some (.int .i64 0):=cell_of hT 0 rfl;refine(OR n ⟨T,0,none⟩ (.int .i64 0) w hg dj hc (by simp[World.frozen?,hT])).mono ?_;rintro e' w'⟨rfl,rfl⟩;refine⟨rfl,?_,?_⟩
 ·refine World.cell?_setCell_same _ _ _ (u:=.int .i64 0) ?_
  rw[World.cell?_alloc_lt _ _ ⟨T,0,none⟩ (by simp;omega),World.cell?_alloc_lt _ _ ⟨T,0,none⟩ (by simp;omega),World.cell?_alloc_lt _ _ ⟨T,0,none⟩ (by simp;omega),World.cell?_alloc_lt _ _ ⟨T,0,none⟩ DE];exact hc
 ·exact(((((Below.refl T w).alloc (by omega) _).alloc (by simp;omega) _).alloc (by simp;omega) _).alloc (by simp;omega) _).setCell (Nat.le_refl _) _
theorem IB(n:Int)(T:Nat)(w:Wd)(hg:vP w)(dj:11<=w.heap.size)(hT:Bk w T #[.pointer none] 90) :
  Calls prog 38 #[.iface 26 (.int .i64 n),.iface 92 (.pointer (some ⟨T,0,none⟩))] w fun e' w'=>e'=.returned (.bool false)/\Below w.heap.size w w':=by
 have hc:w.cell? ⟨T,0,none⟩=some (.pointer none):=cell_of hT 0 rfl;refine(LH n ⟨T,0,none⟩ (.pointer none) w hg dj hc).mono ?_;rintro e' w'⟨rfl,rfl⟩;exact⟨rfl,(((Below.refl _ _).alloc (by omega) _).alloc (by simp) _).alloc (by simp;omega) _⟩
theorem KK(w:Wd):Calls prog 16 #[.nilIface] w fun e w'=>e=.returned (.tuple #[.int .i64 0,.int .i64 0])/\Below w.heap.size w w':=by
 go_enter func16,ntmps16;go_wp2_with fail
 go_ret2
 exact⟨rfl,((Below.refl _ _).alloc (by omega) _).alloc (by simp) _⟩
theorem Cs(a:Int)(w:Wd):Calls prog 39 #[.agg #[.int .i64 a]] w fun e w'=>e=.returned (.int .i64 a)/\Below w.heap.size w w':=by go_enter func39,ntmps39;go_wp2_with fail;go_ret;exact⟨rfl,(Below.refl _ _).alloc (by omega) _⟩
theorem vC(n:Int)(w:Wd)(hg:vP w)(dj:11<=w.heap.size):Calls prog 16 #[.iface 26 (.int .i64 n)] w fun e w'=>e=.returned (.tuple #[.int .i64 n,.int .i64 0])/\Below w.heap.size w w':=by
 have b1:Below w.heap.size w ((w.alloc (.cells #[.pointer none] 90)).alloc (.cells #[.int .i64 0] 26)):=((Below.refl _ _).alloc (by omega) _).alloc (by simp) _;have hF:((w.alloc (.cells #[.pointer none] 90)).alloc (.cells #[.int .i64 0] 26)).heap[w.heap.size]?=some (.cells #[.pointer none] 90):=by rw[Below.heap_alloc _ _ _ (by simp)];exact heap_alloc_new _ _
 have hN:((w.alloc (.cells #[.pointer none] 90)).alloc (.cells #[.int .i64 0] 26)).heap[w.heap.size+1]?=some (.cells #[.int .i64 0] 26):=by have:=heap_alloc_new (w.alloc (.cells #[.pointer none] 90)) (.cells #[.int .i64 0] 26);simpa using this
 have DC:=IB n w.heap.size _ (hg.below b1 dj) (by simp;omega) hF;go_enter func16,ntmps16;go_wp2_with fail;refine DC.mono ?_;rintro e w1⟨rfl,b2⟩;have hN1:w1.heap[w.heap.size+1]?=some (.cells #[.int .i64 0] 26):=by rw[b2.block _ (by simp)];exact hN
 have b3:Below w.heap.size w w1:=b1.trans (b2.mono (by simp;omega));have rM:=KQ n (w.heap.size+1) w1 (hg.below b3 dj) (by have:=b3.size;omega) hN1;clear DC hF hN hN1;go_wp2_with fail;refine rM.mono ?_;rintro e w2⟨rfl,gJ,b4⟩;clear rM;go_wp2_with fail
 go_ret2
 exact⟨rfl,b3.trans (b4.mono (by omega))⟩
def yp(w0:Wd)(F N:Nat)(a n:Int)(w:Wd):Prop :=
 w.cell? ⟨F,0,none⟩=some (.pointer (some ⟨N,0,none⟩))/\w.cell? ⟨N,0,none⟩=some (.int .i64 a)/\w.cell? ⟨N,1,none⟩=some (.int .i64 n)/\Below w0.heap.size w0 w
theorem mT{p:Addr}{v:Value}(h:w.cell? p=some v):p.block<w.heap.size:=by
 rcases Nat.lt_or_ge p.block w.heap.size with k | k
 ·exact k
 ·simp[World.cell?,Array.getElem?_eq_none k]at h
theorem LD(hb:Below w.heap.size w w')(h:yp w0 F N a n w):yp w0 F N a n w':=by
 obtain⟨h1,h2,h3,h4⟩:=h;refine⟨?_,?_,?_,h4.trans (hb.mono h4.size)⟩
 ·rw[hb.cell (mT h1)];exact h1
 ·rw[hb.cell (mT h2)];exact h2
 ·rw[hb.cell (mT h3)];exact h3
theorem JU(h:yp w0 F N a n w):Below w0.heap.size w0 w:=h.2.2.2
theorem LZ(h:yp w0 F N a n w):yp w0 F N a n w.drew:=⟨h.1,h.2.1,h.2.2.1,h.2.2.2.drew⟩
theorem Fa(N:Nat)(a n:Int)(w:Wd)(hg:vP w)(dj:11<=w.heap.size)(hN:Bk w N #[.int .i64 a,.int .i64 n] 96):Calls prog 16 #[.iface 90 (.pointer (some ⟨N,0,none⟩))] w fun e w'=>e=.returned (.tuple #[.int .i64 n,.int .i64 a])/\Below w.heap.size w w':=by
 have hNl:=ah hN;have b1:Below w.heap.size w ((w.alloc (.cells #[.pointer none] 90)).alloc (.cells #[.int .i64 0] 26)):=((Below.refl _ _).alloc (by omega) _).alloc (by simp) _;have hF:((w.alloc (.cells #[.pointer none] 90)).alloc (.cells #[.int .i64 0] 26)).heap[w.heap.size]?=some (.cells #[.pointer none] 90):=by rw[Below.heap_alloc _ _ _ (by simp)];exact heap_alloc_new _ _
 have DC:=LB ⟨N,0,none⟩ w.heap.size _ (hg.below b1 dj) (by simp;omega) hF;go_enter func16,ntmps16;go_wp2_with fail;refine DC.mono ?_;rintro e w1⟨rfl,gJ,b2⟩;have b3:Below w.heap.size w w1:=b1.trans b2;have k:yp w w.heap.size N a n w1:=⟨gJ,by rw[b3.cell (show N<w.heap.size from hNl)];exact cell_of hN 0 rfl,by rw[b3.cell (show N<w.heap.size from hNl)];exact cell_of hN 1 rfl,b3⟩;have kd:=LZ k;clear DC hF hN gJ b2 b3 b1 k;go_wp2_with fail
 go_region_held3 (fun w':Wd=>w'.cell? ⟨w.heap.size,0,none⟩=some (.pointer (some ⟨N,0,none⟩))/\w'.cell? ⟨N,0,none⟩=some (.int .i64 a)/\w'.cell? ⟨N,1,none⟩=some (.int .i64 n)/\Below w.heap.size w w') (first | exact kd | assumption | exact LD (by assumption) (by assumption)) (first | (go_at_call 39;refine(Cs a _).mono ?_;rintro e w1 ⟨rfl,Du⟩))
 all_goals
  go_wp2_with fail
  go_ret2
  exact⟨rfl,JU (F:=w.heap.size) (N:=N) (a:=a) (n:=n) (by assumption)⟩
theorem Lr(v:Value)(er:Nat × Nat)(B:Nat)(w:Wd)(hg:vP w)(dj:11<=w.heap.size)(hv:iR w B v er) :
  Calls prog 16 #[v] w fun e w'=>e=.returned (.tuple #[.int .i64 er.1,.int .i64 er.2])/\Below w.heap.size w w':=by
 rcases hv with⟨rfl,rfl⟩ | ⟨N,_,rfl,hN⟩
 ·exact vC 1 w hg dj
 ·exact Fa N er.2 er.1 w hg dj hN
end
section
open Go.ChangeShapes Go.WideShapes Go.ChangeAt Go.RowKit
theorem YO:prog.globalNamed "invariants/tree.opposites" = some 4:=by kernel_rfl
theorem YT:prog.globalNamed "invariants/tree.mirrors" = some 3:=by kernel_rfl
theorem YR:(prog.globals[4]?).map (·.type)=some 403:=by kernel_rfl
theorem Y7:(prog.globals[3]?).map (·.type)=some 403:=by kernel_rfl
theorem Mx{W:Wd}(h:laidMetH prog Rows.straightRow.laid W):rj W/\gw W:=by
 have h':laidMet prog [("invariants/tree.opSigns", Rows.laid_invariants_tree_opSigns),("invariants/tree.relationSigns", Rows.laid_invariants_tree_relationSigns),("invariants/tree.opposites", Rows.laid_invariants_tree_opposites),("invariants/tree.mirrors", Rows.laid_invariants_tree_mirrors),("math/bits.deBruijn32tab", Rows.laid_math_bits_deBruijn32tab),("math/bits.deBruijn64tab", Rows.laid_math_bits_deBruijn64tab),("internal/strconv.uint64pow10", Rows.laid_internal_strconv_uint64pow10),("strconv.ErrRange", Rows.laid_strconv_ErrRange),("strconv.ErrSyntax", Rows.laid_strconv_ErrSyntax)] W/\handlesMet prog [("errors.errorType", Rows.laid_errors_errorType)] W:=h;obtain⟨⟨ps,⟨g0,t0,c0,f0,p0,q0,hg0,P7,hv0,Uf,⟨g1,t1,c1,f1,p1,q1,Ny,ht1,hv1,Oa,⟨g2,t2,c2,f2,p2,q2,Bp,Xk,Z8,Ob,⟨g3,t3,c3,f3,p3,q3,Ky,PZ,TM,Uh,⟨g4,t4,c4,f4,p4,q4,Tj,ht4,XZ,Ul,⟨g5,t5,c5,f5,p5,q5,P6,ZK,Qo,hd5,⟨g6,t6,c6,f6,p6,q6,Yi,ht6,VA,hd6,⟨g7,t7,c7,f7,p7,q7,VR,ht7,Xb,Yh,⟨g8,t8,c8,f8,p8,q8,hg8,ht8,FW,hd8,_,_⟩,_⟩,_⟩,_⟩,_⟩,_⟩,_⟩,_⟩,_⟩,_,_⟩,hh⟩:=h';obtain rfl:=Option.some.inj (YY.symm.trans hg0);obtain rfl:=Option.some.inj (Y0.symm.trans P7);obtain rfl:=Option.some.inj (UL.symm.trans Ny);obtain rfl:=Option.some.inj (UQ.symm.trans ht1);obtain rfl:=Option.some.inj (YO.symm.trans Bp);obtain rfl:=Option.some.inj (YR.symm.trans Xk);obtain rfl:=Option.some.inj (YT.symm.trans Ky);obtain rfl:=Option.some.inj (Y7.symm.trans PZ);obtain rfl:=Option.some.inj (YX.symm.trans Yi);obtain rfl:=Option.some.inj (YQ.symm.trans ht6);obtain rfl:=Option.some.inj (Ve.symm.trans VR);obtain rfl:=Option.some.inj (US.symm.trans ht7);obtain rfl:=Option.some.inj (U2.symm.trans hg8);obtain rfl:=Option.some.inj (Vh.symm.trans ht8);have kR:∃tp p,W.cell? ⟨10,0,none⟩=some (.iface tp p):=by obtain⟨_,u,v,hc,_,_⟩:=iface_of_trod underlying23 Yh;exact⟨u,v,by rw[World.var?_cell VR Xb 0,Array.eq_one_of_toList hc];rfl⟩
 have kS:∃tp p,W.cell? ⟨9,0,none⟩=some (.iface tp p):=by obtain⟨_,u,v,hc,_,_⟩:=iface_of_trod underlying23 hd8;exact⟨u,v,by rw[World.var?_cell hg8 FW 0,Array.eq_one_of_toList hc];rfl⟩
 have hcO:=Lib.cells_of_tab (zs:=[4,5,3,2,0,1]) underlying403 underlying230 (by kernel_rfl) (by kernel_rfl) Ob;have hcM:=Lib.cells_of_tab (zs:=[5,4,2,3,1,0]) underlying403 underlying230 (by kernel_rfl) (by kernel_rfl) Uh;refine⟨⟨⟨?_,?_,?_,kS,kR,?_⟩,?_⟩,⟨?_,?_⟩⟩
 ·obtain⟨_,_,hc⟩:=kR
  obtain⟨_,_,NG⟩:=kS;have:=mT hc;have:=mT NG;simp at *;omega
 ·intro k hk
  have:=rE (ss:=[[43],[45],[42],[47],[37]]) underlying272 underlying9 (by kernel_rfl) Uf k (cD k) (by
   match k,hk with
   | 0,_=>rfl
   | 1,_=>rfl
   | 2,_=>rfl
   | 3,_=>rfl
   | 4,_=>rfl)
  rw[World.var?_cell hg0 hv0 k,<-this];simp
 ·intro k hk
  have:=rE (ss:=[[60],[60,61],[61,61],[33,61],[62,61],[62]]) underlying273 underlying9 (by kernel_rfl) Oa k (aQ k) (by
   match k,hk with
   | 0,_=>rfl
   | 1,_=>rfl
   | 2,_=>rfl
   | 3,_=>rfl
   | 4,_=>rfl
   | 5,_=>rfl)
  rw[World.var?_cell Ny hv1 k,<-this];simp
 ·unfold Lib.TabIs
  rw[VA,<-Lib.cells_of_tab (zs:=Lib.pow10Tab) underlying423 underlying416 (by kernel_rfl) (by kernel_rfl) hd6]
 ·obtain⟨name,u,ty,e1,e2,e3,e4,e5⟩:=hh _ (List.mem_singleton.2 rfl)
  have en:name=[101,114,114,111,114]:=(Option.some.inj e1).symm;subst en;obtain rfl:=Option.some.inj (Y9.symm.trans e2);have hm:ty∈(List.range 487).filter fun t=>prog.rowNamed t [101,114,114,111,114]:=List.mem_filter.2 ⟨List.mem_range.2 (by rw[<-U5];exact e3),e4⟩
  rw[RJ]at hm;obtain rfl:=List.mem_singleton.1 hm;have hh:typeHandle prog 23=.pointer (some ⟨11,23,none⟩):=by kernel_rfl
  rw[hh]at e5;show W.cell? _=_;simpa using World.var?_cell gET e5 0
 ·intro k hk
  rw[World.var?_cell Ky TM k,<-Array.getElem?_toList,hcM]
  match k,hk with
  | 0,_=>rfl
  | 1,_=>rfl
  | 2,_=>rfl
  | 3,_=>rfl
  | 4,_=>rfl
  | 5,_=>rfl
 ·intro k hk
  rw[World.var?_cell Bp Z8 k,<-Array.getElem?_toList,hcO]
  match k,hk with
  | 0,_=>rfl
  | 1,_=>rfl
  | 2,_=>rfl
  | 3,_=>rfl
  | 4,_=>rfl
  | 5,_=>rfl
theorem JO(os:Os)(args:Array Value):laidMetH prog Rows.straightRow.laid ((World.doorLaid prog 400 os).forCall (fun _ _=>0) ⟨#[],args,[]⟩).memory :=
 laidMetH_of_parts3 (fuel:=8) (laidMet_of_run' 8 (by kernel_rfl) (by kernel_rfl)) (by kernel_rfl) (by kernel_rfl)
end
end Go.Proofs.YtiopfihjmkfdmaaGreatDoor
