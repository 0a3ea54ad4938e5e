import Derived.Test.YtiopfihjmkfdmaaGreatDoorX20
import Derived.LaidEql
import Derived.RowKitTokens
import Derived.Stop.Asserts
namespace Go.Proofs.YtiopfihjmkfdmaaGreatDoor
open Go.RowKit Go.Extern.Stop Go.Stop Go.Extern
set_option maxRecDepth 100000
theorem methodKind (h:Value) (w:World):(Go.method 587 238 (.agg #[h]) "Kind").run Tryz.prog w=.ok (288,h) w:=by kernel_rfl
theorem methodElem (h:Value) (w:World):(Go.method 587 238 (.agg #[h]) "Elem").run Tryz.prog w=.ok (350,.agg #[h]) w:=by kernel_rfl
theorem methodImplements (h:Value) (w:World):(Go.method 587 238 (.agg #[h]) "Implements").run Tryz.prog w=.ok (351,.agg #[h]) w:=by kernel_rfl
theorem methodAssignableTo (h:Value) (w:World):(Go.method 587 238 (.agg #[h]) "AssignableTo").run Tryz.prog w=.ok (348,.agg #[h]) w:=by kernel_rfl
theorem valueOfPF (t:Addr) (w:World):(ReflectliteValue.unpack (.iface 92 (.pointer (some t)))).run Tryz.prog w
  = .ok (.agg #[.pointer (some ⟨11,92,none⟩),.pointer (some ⟨w.heap.size,0,none⟩),.int .u64 150]) (w.alloc (.cells #[.pointer (some t)] 92)):=by kernel_rfl
theorem typePF (a:Addr) (w:World):(ReflectliteValue.methodAny (ReflectliteValue.valueError "reflectlite.Value.Type" 0) (fun t _ _ _=>ReflectliteType.toType t) #[.agg #[.pointer (some ⟨11,92,none⟩),.pointer (some a),.int .u64 150]]).run Tryz.prog w
  = .ok (.iface 238 (.agg #[.pointer (some ⟨11,92,none⟩)])) w:=by kernel_rfl
theorem kindPF (w:World):((ReflectliteType.abiMethod fun t=>(fun a:Nat=>Value.int IntKind.u8 (a:Int)) <$> Rtype.kind t) #[.pointer (some ⟨11,92,none⟩)]).run Tryz.prog w=.ok (.int .u8 22) w:=by kernel_rfl
theorem kindF (w:World):((ReflectliteType.abiMethod fun t=>(fun a:Nat=>Value.int IntKind.u8 (a:Int)) <$> Rtype.kind t) #[.pointer (some ⟨11,90,none⟩)]).run Tryz.prog w=.ok (.int .u8 22) w:=by kernel_rfl
theorem partsPF (a:Addr) (w:World):(ReflectliteValue.parts (.agg #[.pointer (some ⟨11,92,none⟩),.pointer (some a),.int .u64 150])).run Tryz.prog w=.ok (some (92,a,150)) w:=by kernel_rfl
theorem isNilPF (a p:Addr) (W:World) (ha:W.cell? a=some (.pointer (some p))) :
  (ReflectliteValue.method (ReflectliteValue.valueError "reflectlite.Value.IsNil" 0) ReflectliteValue.isNil #[.agg #[.pointer (some ⟨11,92,none⟩),.pointer (some a),.int .u64 150]]).run Tryz.prog W=.ok (.bool false) W:=by
 change (ReflectliteValue.parts (.agg #[.pointer (some ⟨11,92,none⟩),.pointer (some a),.int .u64 150]) >>= _).run Tryz.prog W=_
 simp only [Sem.run_bind,partsPF,Result.andThen]
 simp [ReflectliteValue.isNil,loadVar,isAgg,underlying,Tryz.underlying92,ha,Result.andThen]
theorem elemPF (w:World):(ReflectliteType.method ReflectliteType.elem #[.agg #[.pointer (some ⟨11,92,none⟩)]]).run Tryz.prog w=.ok (.iface 238 (.agg #[.pointer (some ⟨11,90,none⟩)])) w:=by kernel_rfl
theorem implF (w:World):(ReflectliteType.relation "Implements" ReflectliteType.implements_ #[.agg #[.pointer (some ⟨11,90,none⟩)],.iface 238 (.agg #[.pointer (some ⟨11,23,none⟩)])]).run Tryz.prog w=.ok (.bool true) w:=by kernel_rfl
theorem typeOfF (v:Value) (w:World):(ReflectliteType.typeOf #[.iface 90 v]).run Tryz.prog w=.ok (.iface 238 (.agg #[.pointer (some ⟨11,90,none⟩)])) w:=by kernel_rfl
theorem typeOfE (v:Value) (w:World):(ReflectliteType.typeOf #[.iface 26 v]).run Tryz.prog w=.ok (.iface 238 (.agg #[.pointer (some ⟨11,26,none⟩)])) w:=by kernel_rfl
theorem assignF (w:World):(ReflectliteType.relation "AssignableTo" ReflectliteType.assignableTo #[.agg #[.pointer (some ⟨11,90,none⟩)],.iface 238 (.agg #[.pointer (some ⟨11,90,none⟩)])]).run Tryz.prog w=.ok (.bool true) w:=by kernel_rfl
theorem assignEF (w:World):(ReflectliteType.relation "AssignableTo" ReflectliteType.assignableTo #[.agg #[.pointer (some ⟨11,26,none⟩)],.iface 238 (.agg #[.pointer (some ⟨11,90,none⟩)])]).run Tryz.prog w=.ok (.bool false) w:=by kernel_rfl
theorem assignE (w:World):(ReflectliteType.relation "AssignableTo" ReflectliteType.assignableTo #[.agg #[.pointer (some ⟨11,26,none⟩)],.iface 238 (.agg #[.pointer (some ⟨11,26,none⟩)])]).run Tryz.prog w=.ok (.bool true) w:=by kernel_rfl
theorem valueOfF (e:Addr) (w:World):(ReflectliteValue.unpack (.iface 90 (.pointer (some e)))).run Tryz.prog w
  = .ok (.agg #[.pointer (some ⟨11,90,none⟩),.pointer (some ⟨w.heap.size,0,none⟩),.int .u64 150]) (w.alloc (.cells #[.pointer (some e)] 90)):=by kernel_rfl
theorem elemOfPF (w:World):(Rtype.elem? 92).run Tryz.prog w=.ok (some 90) w:=by kernel_rfl
theorem mkF (p:Addr) (w:World):(ReflectliteValue.mk 90 p ReflectliteValue.flagAddr).run Tryz.prog w=.ok (.agg #[.pointer (some ⟨11,90,none⟩),.pointer (some p),.int .u64 406]) w:=by kernel_rfl
theorem elemVPF (a p:Addr) (W:World) (ha:W.cell? a=some (.pointer (some p))) :
  (ReflectliteValue.method (ReflectliteValue.valueError "reflectlite.Value.Elem" 0) ReflectliteValue.elem #[.agg #[.pointer (some ⟨11,92,none⟩),.pointer (some a),.int .u64 150]]).run Tryz.prog W
    = .ok (.agg #[.pointer (some ⟨11,90,none⟩),.pointer (some p),.int .u64 406]) W:=by
 change (ReflectliteValue.parts (.agg #[.pointer (some ⟨11,92,none⟩),.pointer (some a),.int .u64 150]) >>= _).run Tryz.prog W=_
 simp only [Sem.run_bind,partsPF,Result.andThen]
 simp [ReflectliteValue.elem,loadVar,isAgg,underlying,Tryz.underlying92,ha,Result.andThen,elemOfPF,mkF]
theorem partsFa (a:Addr) (w:World):(ReflectliteValue.parts (.agg #[.pointer (some ⟨11,90,none⟩),.pointer (some a),.int .u64 406])).run Tryz.prog w=.ok (some (90,a,406)) w:=by kernel_rfl
theorem partsF (a:Addr) (w:World):(ReflectliteValue.parts (.agg #[.pointer (some ⟨11,90,none⟩),.pointer (some a),.int .u64 150])).run Tryz.prog w=.ok (some (90,a,150)) w:=by kernel_rfl
theorem directF (w:World):(Rtype.directlyAssignable 90 90).run Tryz.prog w=.ok true w:=by kernel_rfl
theorem setF (ta b e:Addr) (old:Value) (W:World) (hb:W.cell? b=some (.pointer (some e))) (ht:W.cell? ta=some old) (hf:W.frozen? ta=false) :
  (ReflectliteValue.set #[.agg #[.pointer (some ⟨11,90,none⟩),.pointer (some ta),.int .u64 406],.agg #[.pointer (some ⟨11,90,none⟩),.pointer (some b),.int .u64 150]]).run Tryz.prog W
    = .ok (.tuple #[]) (W.setCell ta (.pointer (some e))):=by
 change (ReflectliteValue.parts (.agg #[.pointer (some ⟨11,90,none⟩),.pointer (some ta),.int .u64 406]) >>= fun _=>ReflectliteValue.parts (.agg #[.pointer (some ⟨11,90,none⟩),.pointer (some b),.int .u64 150]) >>= _).run Tryz.prog W=_
 simp only [Sem.run_bind,partsFa,partsF,Result.andThen]
 simp [ReflectliteValue.flagAddr,loadVar,isAgg,underlying,Tryz.underlying90,hb,Result.andThen,directF,storeVar,Value.cells,storeCells,Addr.add]
 rw [run_store Tryz.prog W ta _ _ (by rfl)]
 simp [ht,hf]
theorem valueOfPE (t:Addr) (w:World):(ReflectliteValue.unpack (.iface 98 (.pointer (some t)))).run Tryz.prog w
  = .ok (.agg #[.pointer (some ⟨11,98,none⟩),.pointer (some ⟨w.heap.size,0,none⟩),.int .u64 150]) (w.alloc (.cells #[.pointer (some t)] 98)):=by kernel_rfl
theorem typePE (a:Addr) (w:World):(ReflectliteValue.methodAny (ReflectliteValue.valueError "reflectlite.Value.Type" 0) (fun t _ _ _=>ReflectliteType.toType t) #[.agg #[.pointer (some ⟨11,98,none⟩),.pointer (some a),.int .u64 150]]).run Tryz.prog w
  = .ok (.iface 238 (.agg #[.pointer (some ⟨11,98,none⟩)])) w:=by kernel_rfl
theorem kindPE (w:World):((ReflectliteType.abiMethod fun t=>(fun a:Nat=>Value.int IntKind.u8 (a:Int)) <$> Rtype.kind t) #[.pointer (some ⟨11,98,none⟩)]).run Tryz.prog w=.ok (.int .u8 22) w:=by kernel_rfl
theorem kindE (w:World):((ReflectliteType.abiMethod fun t=>(fun a:Nat=>Value.int IntKind.u8 (a:Int)) <$> Rtype.kind t) #[.pointer (some ⟨11,26,none⟩)]).run Tryz.prog w=.ok (.int .u8 2) w:=by kernel_rfl
theorem partsPE (a:Addr) (w:World):(ReflectliteValue.parts (.agg #[.pointer (some ⟨11,98,none⟩),.pointer (some a),.int .u64 150])).run Tryz.prog w=.ok (some (98,a,150)) w:=by kernel_rfl
theorem isNilPE (a p:Addr) (W:World) (ha:W.cell? a=some (.pointer (some p))) :
  (ReflectliteValue.method (ReflectliteValue.valueError "reflectlite.Value.IsNil" 0) ReflectliteValue.isNil #[.agg #[.pointer (some ⟨11,98,none⟩),.pointer (some a),.int .u64 150]]).run Tryz.prog W=.ok (.bool false) W:=by
 change (ReflectliteValue.parts (.agg #[.pointer (some ⟨11,98,none⟩),.pointer (some a),.int .u64 150]) >>= _).run Tryz.prog W=_
 simp only [Sem.run_bind,partsPE,Result.andThen]
 simp [ReflectliteValue.isNil,loadVar,isAgg,underlying,Tryz.underlying98,ha,Result.andThen]
theorem elemPE (w:World):(ReflectliteType.method ReflectliteType.elem #[.agg #[.pointer (some ⟨11,98,none⟩)]]).run Tryz.prog w=.ok (.iface 238 (.agg #[.pointer (some ⟨11,26,none⟩)])) w:=by kernel_rfl
theorem implE (w:World):(ReflectliteType.relation "Implements" ReflectliteType.implements_ #[.agg #[.pointer (some ⟨11,26,none⟩)],.iface 238 (.agg #[.pointer (some ⟨11,23,none⟩)])]).run Tryz.prog w=.ok (.bool true) w:=by kernel_rfl
theorem valueOfE (n:Int) (w:World):(ReflectliteValue.unpack (.iface 26 (.int .i64 n))).run Tryz.prog w
  = .ok (.agg #[.pointer (some ⟨11,26,none⟩),.pointer (some ⟨w.heap.size,0,none⟩),.int .u64 130]) (w.alloc (.cells #[.int .i64 n] 26)):=by kernel_rfl
theorem elemOfPE (w:World):(Rtype.elem? 98).run Tryz.prog w=.ok (some 26) w:=by kernel_rfl
theorem mkE (p:Addr) (w:World):(ReflectliteValue.mk 26 p ReflectliteValue.flagAddr).run Tryz.prog w=.ok (.agg #[.pointer (some ⟨11,26,none⟩),.pointer (some p),.int .u64 386]) w:=by kernel_rfl
theorem elemVPE (a p:Addr) (W:World) (ha:W.cell? a=some (.pointer (some p))) :
  (ReflectliteValue.method (ReflectliteValue.valueError "reflectlite.Value.Elem" 0) ReflectliteValue.elem #[.agg #[.pointer (some ⟨11,98,none⟩),.pointer (some a),.int .u64 150]]).run Tryz.prog W
    = .ok (.agg #[.pointer (some ⟨11,26,none⟩),.pointer (some p),.int .u64 386]) W:=by
 change (ReflectliteValue.parts (.agg #[.pointer (some ⟨11,98,none⟩),.pointer (some a),.int .u64 150]) >>= _).run Tryz.prog W=_
 simp only [Sem.run_bind,partsPE,Result.andThen]
 simp [ReflectliteValue.elem,loadVar,isAgg,underlying,Tryz.underlying98,ha,Result.andThen,elemOfPE,mkE]
theorem partsEa (a:Addr) (w:World):(ReflectliteValue.parts (.agg #[.pointer (some ⟨11,26,none⟩),.pointer (some a),.int .u64 386])).run Tryz.prog w=.ok (some (26,a,386)) w:=by kernel_rfl
theorem partsE (a:Addr) (w:World):(ReflectliteValue.parts (.agg #[.pointer (some ⟨11,26,none⟩),.pointer (some a),.int .u64 130])).run Tryz.prog w=.ok (some (26,a,130)) w:=by kernel_rfl
theorem directE (w:World):(Rtype.directlyAssignable 26 26).run Tryz.prog w=.ok true w:=by kernel_rfl
theorem setE (ta b:Addr) (n:Int) (old:Value) (W:World) (hb:W.cell? b=some (.int .i64 n)) (ht:W.cell? ta=some old) (hf:W.frozen? ta=false) :
  (ReflectliteValue.set #[.agg #[.pointer (some ⟨11,26,none⟩),.pointer (some ta),.int .u64 386],.agg #[.pointer (some ⟨11,26,none⟩),.pointer (some b),.int .u64 130]]).run Tryz.prog W
    = .ok (.tuple #[]) (W.setCell ta (.int .i64 n)):=by
 change (ReflectliteValue.parts (.agg #[.pointer (some ⟨11,26,none⟩),.pointer (some ta),.int .u64 386]) >>= fun _=>ReflectliteValue.parts (.agg #[.pointer (some ⟨11,26,none⟩),.pointer (some b),.int .u64 130]) >>= _).run Tryz.prog W=_
 simp only [Sem.run_bind,partsEa,partsE,Result.andThen]
 simp [ReflectliteValue.flagAddr,loadVar,isAgg,underlying,Tryz.underlying26,hb,Result.andThen,directE,storeVar,Value.cells,storeCells,Addr.add]
 rw [run_store Tryz.prog W ta _ _ (by rfl)]
 simp [ht,hf]
end Go.Proofs.YtiopfihjmkfdmaaGreatDoor
namespace Go.Proofs.YtiopfihjmkfdmaaGreatDoor
open Go.RowKit Go.Extern.Stop Go.Stop Go.Extern
set_option maxRecDepth 100000
set_option maxHeartbeats 4000000
theorem noAs (v:Value) (xT:TypeId) (w:World):(Instr.typeAssert (.iface 26 v) xT 243 true).run Tryz.prog w=.ok (.tuple #[.nilIface,.bool false]) w:=run_typeAssert_lacksB Tryz.underlying243 (by kernel_rfl) (by kernel_rfl) v xT w
theorem noUn (v:Value) (xT:TypeId) (w:World):(Instr.typeAssert (.iface 26 v) xT 246 true).run Tryz.prog w=.ok (.tuple #[.nilIface,.bool false]) w:=run_typeAssert_lacksB Tryz.underlying246 (by kernel_rfl) (by kernel_rfl) v xT w
theorem noUns (v:Value) (xT:TypeId) (w:World):(Instr.typeAssert (.iface 26 v) xT 248 true).run Tryz.prog w=.ok (.tuple #[.nilIface,.bool false]) w:=run_typeAssert_lacksB Tryz.underlying248 (by kernel_rfl) (by kernel_rfl) v xT w
theorem as_hitF (e:Addr) (t:Addr) (old:Value) (w:World) (hg:w.cell? ⟨0,0,none⟩=some (.iface 238 (.agg #[.pointer (some ⟨11,23,none⟩)]))) (hlt:11≤w.heap.size) (ht0:w.cell? t=some old) (hf0:w.frozen? t=false) :
  Calls Tryz.prog 38 #[.iface 90 (.pointer (some e)),.iface 92 (.pointer (some t))] w fun e' w'=>e'=.returned (.bool true)∧w'=((((w.alloc (.cells #[.pointer (some t)] 92)).alloc (.cells #[.pointer (some ⟨11,92,none⟩),.pointer (some ⟨w.heap.size,0,none⟩),.int .u64 150] 161)).alloc (.cells #[.pointer (some ⟨11,92,none⟩),.pointer (some ⟨w.heap.size,0,none⟩),.int .u64 150] 161)).alloc (.cells #[.pointer (some e)] 90)).setCell t (.pointer (some e)):=by
 have h6:=@run_callFunc_extern Tryz.prog 61 _ (fun args=>ReflectliteValue.unpack (args.getD 0 (.tuple #[]))) Tryz.func61 (by kernel_rfl) (by kernel_rfl) (by kernel_rfl) (by kernel_rfl)
 have h7:=@run_callFunc_extern Tryz.prog 62 _ (ReflectliteValue.methodAny (ReflectliteValue.valueError "reflectlite.Value.Type" 0) (fun t _ _ _=>ReflectliteType.toType t)) Tryz.func62 (by kernel_rfl) (by kernel_rfl) (by kernel_rfl) (by kernel_rfl)
 have h8:=@run_callFunc_extern Tryz.prog 63 _ (ReflectliteValue.method (ReflectliteValue.valueError "reflectlite.Value.IsNil" 0) ReflectliteValue.isNil) Tryz.func63 (by kernel_rfl) (by kernel_rfl) (by kernel_rfl) (by kernel_rfl)
 have h27:=@run_callFunc_extern Tryz.prog 288 _ (ReflectliteType.abiMethod fun t=>do pure (.int .u8 (← Rtype.kind t))) Tryz.func288 (by kernel_rfl) (by kernel_rfl) (by kernel_rfl) (by kernel_rfl)
 have h37:=@run_callFunc_extern Tryz.prog 350 _ (ReflectliteType.method ReflectliteType.elem) Tryz.func350 (by kernel_rfl) (by kernel_rfl) (by kernel_rfl) (by kernel_rfl)
 have h38:=@run_callFunc_extern Tryz.prog 351 _ (ReflectliteType.relation "Implements" ReflectliteType.implements_) Tryz.func351 (by kernel_rfl) (by kernel_rfl) (by kernel_rfl) (by kernel_rfl)
 have h10:=@run_callFunc_extern Tryz.prog 92 _ ReflectliteType.typeOf Tryz.func92 (by kernel_rfl) (by kernel_rfl) (by kernel_rfl) (by kernel_rfl)
 have h35:=@run_callFunc_extern Tryz.prog 348 _ (ReflectliteType.relation "AssignableTo" ReflectliteType.assignableTo) Tryz.func348 (by kernel_rfl) (by kernel_rfl) (by kernel_rfl) (by kernel_rfl)
 have h11:=@run_callFunc_extern Tryz.prog 93 _ (ReflectliteValue.method (ReflectliteValue.valueError "reflectlite.Value.Elem" 0) ReflectliteValue.elem) Tryz.func93 (by kernel_rfl) (by kernel_rfl) (by kernel_rfl) (by kernel_rfl)
 have h12:=@run_callFunc_extern Tryz.prog 94 _ ReflectliteValue.set Tryz.func94 (by kernel_rfl) (by kernel_rfl) (by kernel_rfl) (by kernel_rfl)
 have mK:=methodKind
 have mE:=methodElem
 have mI:=methodImplements
 have mA:=methodAssignableTo
 have f6:=valueOfPF
 have f7:=typePF
 have kP:=kindPF
 have kN:=kindF
 have eP:=elemPF
 have iN:=implF
 have tO:=typeOfF
 have aE:=assignF
 have vE:=valueOfF
 have n8:=isNilPF ⟨w.heap.size,0,none⟩ t ((w.alloc (.cells #[.pointer (some t)] 92)).alloc (.cells #[.pointer (some ⟨11,92,none⟩),.pointer (some ⟨w.heap.size,0,none⟩),.int .u64 150] 161)) (by simp)
 have hg2:((w.alloc (.cells #[.pointer (some t)] 92)).alloc (.cells #[.pointer (some ⟨11,92,none⟩),.pointer (some ⟨w.heap.size,0,none⟩),.int .u64 150] 161)).cell? ⟨0,0,none⟩=some (.iface 238 (.agg #[.pointer (some ⟨11,23,none⟩)])):=by
  rw [World.cell?_alloc_lt _ _ ⟨0,0,none⟩ (by simp <;> omega),World.cell?_alloc_lt _ _ ⟨0,0,none⟩ (show 0<w.heap.size by omega)]; exact hg
 have htl:t.block<w.heap.size:=by
  rcases Nat.lt_or_ge t.block w.heap.size with h | h
  ·exact h
  ·simp [World.cell?,Array.getElem?_eq_none h] at ht0
 have el:=elemVPF ⟨w.heap.size,0,none⟩ t (((w.alloc (.cells #[.pointer (some t)] 92)).alloc (.cells #[.pointer (some ⟨11,92,none⟩),.pointer (some ⟨w.heap.size,0,none⟩),.int .u64 150] 161)).alloc (.cells #[.pointer (some ⟨11,92,none⟩),.pointer (some ⟨w.heap.size,0,none⟩),.int .u64 150] 161)) (by rw [World.cell?_alloc_lt _ _ ⟨w.heap.size,0,none⟩ (by simp; omega)]; simp)
 have st:=setF t ⟨w.heap.size + 1 + 1 + 1,0,none⟩ e old ((((w.alloc (.cells #[.pointer (some t)] 92)).alloc (.cells #[.pointer (some ⟨11,92,none⟩),.pointer (some ⟨w.heap.size,0,none⟩),.int .u64 150] 161)).alloc (.cells #[.pointer (some ⟨11,92,none⟩),.pointer (some ⟨w.heap.size,0,none⟩),.int .u64 150] 161)).alloc (.cells #[.pointer (some e)] 90))
  (by rw [World.cell?_alloc_at _ _ _ _ (by simp)]; rfl)
  (by rw [World.cell?_alloc_lt _ _ t (by simp; omega),World.cell?_alloc_lt _ _ t (by simp; omega),World.cell?_alloc_lt _ _ t (by simp; omega),World.cell?_alloc_lt _ _ t htl]; exact ht0)
  (by rw [World.frozen?_alloc_old _ _ t (by simp; omega),World.frozen?_alloc_old _ _ t (by simp; omega),World.frozen?_alloc_old _ _ t (by simp; omega),World.frozen?_alloc_old _ _ t (Nat.ne_of_lt htl)]; exact hf0)
 go_enter Tryz.func38,Tryz.ntmps38
 go_wp2
 refine wp_loop_rounds 1 ?_
 rw [rounds_succ]
 go_wp2
 go_ret
 exact ⟨rfl,rfl⟩
theorem as_hitE (n:Int) (t:Addr) (old:Value) (w:World) (hg:w.cell? ⟨0,0,none⟩=some (.iface 238 (.agg #[.pointer (some ⟨11,23,none⟩)]))) (hlt:11≤w.heap.size) (ht0:w.cell? t=some old) (hf0:w.frozen? t=false) :
  Calls Tryz.prog 38 #[.iface 26 (.int .i64 n),.iface 98 (.pointer (some t))] w fun e' w'=>e'=.returned (.bool true)∧w'=((((w.alloc (.cells #[.pointer (some t)] 98)).alloc (.cells #[.pointer (some ⟨11,98,none⟩),.pointer (some ⟨w.heap.size,0,none⟩),.int .u64 150] 161)).alloc (.cells #[.pointer (some ⟨11,98,none⟩),.pointer (some ⟨w.heap.size,0,none⟩),.int .u64 150] 161)).alloc (.cells #[.int .i64 n] 26)).setCell t (.int .i64 n):=by
 have h6:=@run_callFunc_extern Tryz.prog 61 _ (fun args=>ReflectliteValue.unpack (args.getD 0 (.tuple #[]))) Tryz.func61 (by kernel_rfl) (by kernel_rfl) (by kernel_rfl) (by kernel_rfl)
 have h7:=@run_callFunc_extern Tryz.prog 62 _ (ReflectliteValue.methodAny (ReflectliteValue.valueError "reflectlite.Value.Type" 0) (fun t _ _ _=>ReflectliteType.toType t)) Tryz.func62 (by kernel_rfl) (by kernel_rfl) (by kernel_rfl) (by kernel_rfl)
 have h8:=@run_callFunc_extern Tryz.prog 63 _ (ReflectliteValue.method (ReflectliteValue.valueError "reflectlite.Value.IsNil" 0) ReflectliteValue.isNil) Tryz.func63 (by kernel_rfl) (by kernel_rfl) (by kernel_rfl) (by kernel_rfl)
 have h27:=@run_callFunc_extern Tryz.prog 288 _ (ReflectliteType.abiMethod fun t=>do pure (.int .u8 (← Rtype.kind t))) Tryz.func288 (by kernel_rfl) (by kernel_rfl) (by kernel_rfl) (by kernel_rfl)
 have h37:=@run_callFunc_extern Tryz.prog 350 _ (ReflectliteType.method ReflectliteType.elem) Tryz.func350 (by kernel_rfl) (by kernel_rfl) (by kernel_rfl) (by kernel_rfl)
 have h38:=@run_callFunc_extern Tryz.prog 351 _ (ReflectliteType.relation "Implements" ReflectliteType.implements_) Tryz.func351 (by kernel_rfl) (by kernel_rfl) (by kernel_rfl) (by kernel_rfl)
 have h10:=@run_callFunc_extern Tryz.prog 92 _ ReflectliteType.typeOf Tryz.func92 (by kernel_rfl) (by kernel_rfl) (by kernel_rfl) (by kernel_rfl)
 have h35:=@run_callFunc_extern Tryz.prog 348 _ (ReflectliteType.relation "AssignableTo" ReflectliteType.assignableTo) Tryz.func348 (by kernel_rfl) (by kernel_rfl) (by kernel_rfl) (by kernel_rfl)
 have h11:=@run_callFunc_extern Tryz.prog 93 _ (ReflectliteValue.method (ReflectliteValue.valueError "reflectlite.Value.Elem" 0) ReflectliteValue.elem) Tryz.func93 (by kernel_rfl) (by kernel_rfl) (by kernel_rfl) (by kernel_rfl)
 have h12:=@run_callFunc_extern Tryz.prog 94 _ ReflectliteValue.set Tryz.func94 (by kernel_rfl) (by kernel_rfl) (by kernel_rfl) (by kernel_rfl)
 have mK:=methodKind
 have mE:=methodElem
 have mI:=methodImplements
 have mA:=methodAssignableTo
 have f6:=valueOfPE
 have f7:=typePE
 have kP:=kindPE
 have kN:=kindE
 have eP:=elemPE
 have iN:=implE
 have tO:=typeOfE
 have aE:=assignE
 have vE:=valueOfE
 have n8:=isNilPE ⟨w.heap.size,0,none⟩ t ((w.alloc (.cells #[.pointer (some t)] 98)).alloc (.cells #[.pointer (some ⟨11,98,none⟩),.pointer (some ⟨w.heap.size,0,none⟩),.int .u64 150] 161)) (by simp)
 have hg2:((w.alloc (.cells #[.pointer (some t)] 98)).alloc (.cells #[.pointer (some ⟨11,98,none⟩),.pointer (some ⟨w.heap.size,0,none⟩),.int .u64 150] 161)).cell? ⟨0,0,none⟩=some (.iface 238 (.agg #[.pointer (some ⟨11,23,none⟩)])):=by
  rw [World.cell?_alloc_lt _ _ ⟨0,0,none⟩ (by simp <;> omega),World.cell?_alloc_lt _ _ ⟨0,0,none⟩ (show 0<w.heap.size by omega)]; exact hg
 have htl:t.block<w.heap.size:=by
  rcases Nat.lt_or_ge t.block w.heap.size with h | h
  ·exact h
  ·simp [World.cell?,Array.getElem?_eq_none h] at ht0
 have el:=elemVPE ⟨w.heap.size,0,none⟩ t (((w.alloc (.cells #[.pointer (some t)] 98)).alloc (.cells #[.pointer (some ⟨11,98,none⟩),.pointer (some ⟨w.heap.size,0,none⟩),.int .u64 150] 161)).alloc (.cells #[.pointer (some ⟨11,98,none⟩),.pointer (some ⟨w.heap.size,0,none⟩),.int .u64 150] 161)) (by rw [World.cell?_alloc_lt _ _ ⟨w.heap.size,0,none⟩ (by simp; omega)]; simp)
 have st:=setE t ⟨w.heap.size + 1 + 1 + 1,0,none⟩ n old ((((w.alloc (.cells #[.pointer (some t)] 98)).alloc (.cells #[.pointer (some ⟨11,98,none⟩),.pointer (some ⟨w.heap.size,0,none⟩),.int .u64 150] 161)).alloc (.cells #[.pointer (some ⟨11,98,none⟩),.pointer (some ⟨w.heap.size,0,none⟩),.int .u64 150] 161)).alloc (.cells #[.int .i64 n] 26))
  (by rw [World.cell?_alloc_at _ _ _ _ (by simp)]; rfl)
  (by rw [World.cell?_alloc_lt _ _ t (by simp; omega),World.cell?_alloc_lt _ _ t (by simp; omega),World.cell?_alloc_lt _ _ t (by simp; omega),World.cell?_alloc_lt _ _ t htl]; exact ht0)
  (by rw [World.frozen?_alloc_old _ _ t (by simp; omega),World.frozen?_alloc_old _ _ t (by simp; omega),World.frozen?_alloc_old _ _ t (by simp; omega),World.frozen?_alloc_old _ _ t (Nat.ne_of_lt htl)]; exact hf0)
 go_enter Tryz.func38,Tryz.ntmps38
 go_wp2
 refine wp_loop_rounds 1 ?_
 rw [rounds_succ]
 go_wp2
 go_ret
 exact ⟨rfl,rfl⟩
theorem as_missF (n:Int) (t:Addr) (old:Value) (w:World) (hg:w.cell? ⟨0,0,none⟩=some (.iface 238 (.agg #[.pointer (some ⟨11,23,none⟩)]))) (hlt:11≤w.heap.size) (ht0:w.cell? t=some old) :
  Calls Tryz.prog 38 #[.iface 26 (.int .i64 n),.iface 92 (.pointer (some t))] w fun e' w'=>e'=.returned (.bool false)∧w'=(((w.alloc (.cells #[.pointer (some t)] 92)).alloc (.cells #[.pointer (some ⟨11,92,none⟩),.pointer (some ⟨w.heap.size,0,none⟩),.int .u64 150] 161)).alloc (.cells #[.pointer (some ⟨11,92,none⟩),.pointer (some ⟨w.heap.size,0,none⟩),.int .u64 150] 161)):=by
 have h6:=@run_callFunc_extern Tryz.prog 61 _ (fun args=>ReflectliteValue.unpack (args.getD 0 (.tuple #[]))) Tryz.func61 (by kernel_rfl) (by kernel_rfl) (by kernel_rfl) (by kernel_rfl)
 have h7:=@run_callFunc_extern Tryz.prog 62 _ (ReflectliteValue.methodAny (ReflectliteValue.valueError "reflectlite.Value.Type" 0) (fun t _ _ _=>ReflectliteType.toType t)) Tryz.func62 (by kernel_rfl) (by kernel_rfl) (by kernel_rfl) (by kernel_rfl)
 have h8:=@run_callFunc_extern Tryz.prog 63 _ (ReflectliteValue.method (ReflectliteValue.valueError "reflectlite.Value.IsNil" 0) ReflectliteValue.isNil) Tryz.func63 (by kernel_rfl) (by kernel_rfl) (by kernel_rfl) (by kernel_rfl)
 have h27:=@run_callFunc_extern Tryz.prog 288 _ (ReflectliteType.abiMethod fun t=>do pure (.int .u8 (← Rtype.kind t))) Tryz.func288 (by kernel_rfl) (by kernel_rfl) (by kernel_rfl) (by kernel_rfl)
 have h37:=@run_callFunc_extern Tryz.prog 350 _ (ReflectliteType.method ReflectliteType.elem) Tryz.func350 (by kernel_rfl) (by kernel_rfl) (by kernel_rfl) (by kernel_rfl)
 have h38:=@run_callFunc_extern Tryz.prog 351 _ (ReflectliteType.relation "Implements" ReflectliteType.implements_) Tryz.func351 (by kernel_rfl) (by kernel_rfl) (by kernel_rfl) (by kernel_rfl)
 have h10:=@run_callFunc_extern Tryz.prog 92 _ ReflectliteType.typeOf Tryz.func92 (by kernel_rfl) (by kernel_rfl) (by kernel_rfl) (by kernel_rfl)
 have h35:=@run_callFunc_extern Tryz.prog 348 _ (ReflectliteType.relation "AssignableTo" ReflectliteType.assignableTo) Tryz.func348 (by kernel_rfl) (by kernel_rfl) (by kernel_rfl) (by kernel_rfl)
 have h11:=@run_callFunc_extern Tryz.prog 93 _ (ReflectliteValue.method (ReflectliteValue.valueError "reflectlite.Value.Elem" 0) ReflectliteValue.elem) Tryz.func93 (by kernel_rfl) (by kernel_rfl) (by kernel_rfl) (by kernel_rfl)
 have h12:=@run_callFunc_extern Tryz.prog 94 _ ReflectliteValue.set Tryz.func94 (by kernel_rfl) (by kernel_rfl) (by kernel_rfl) (by kernel_rfl)
 have mK:=methodKind
 have mE:=methodElem
 have mI:=methodImplements
 have mA:=methodAssignableTo
 have f6:=valueOfPF
 have f7:=typePF
 have kP:=kindPF
 have kN:=kindF
 have eP:=elemPF
 have iN:=implF
 have tO:=typeOfE
 have aE:=assignEF
 have n1:=noAs
 have n2:=noUn
 have n3:=noUns
 have n8:=isNilPF ⟨w.heap.size,0,none⟩ t ((w.alloc (.cells #[.pointer (some t)] 92)).alloc (.cells #[.pointer (some ⟨11,92,none⟩),.pointer (some ⟨w.heap.size,0,none⟩),.int .u64 150] 161)) (by simp)
 have hg2:((w.alloc (.cells #[.pointer (some t)] 92)).alloc (.cells #[.pointer (some ⟨11,92,none⟩),.pointer (some ⟨w.heap.size,0,none⟩),.int .u64 150] 161)).cell? ⟨0,0,none⟩=some (.iface 238 (.agg #[.pointer (some ⟨11,23,none⟩)])):=by
  rw [World.cell?_alloc_lt _ _ ⟨0,0,none⟩ (by simp <;> omega),World.cell?_alloc_lt _ _ ⟨0,0,none⟩ (show 0<w.heap.size by omega)]; exact hg
 have htl:t.block<w.heap.size:=by
  rcases Nat.lt_or_ge t.block w.heap.size with h | h
  ·exact h
  ·simp [World.cell?,Array.getElem?_eq_none h] at ht0
 go_enter Tryz.func38,Tryz.ntmps38
 go_wp2
 refine wp_loop_rounds 1 ?_
 rw [rounds_succ]
 go_wp2
 go_ret
 exact ⟨rfl,rfl⟩
end Go.Proofs.YtiopfihjmkfdmaaGreatDoor
namespace Go.Proofs.YtiopfihjmkfdmaaGreatDoor
open Go.RowKit
set_option maxRecDepth 100000
set_option maxHeartbeats 1000000
def ErrT (w:World):Prop:=w.cell? ⟨0,0,none⟩=some (.iface 238 (.agg #[.pointer (some ⟨11,23,none⟩)]))
structure Laid2 (w:World):Prop where
 laid:Laid w
 et:ErrT w
theorem ErrT.below {w w':World} (h:ErrT w) {B:Nat} (hb:Below B w w') (hB:11≤B):ErrT w':=by
 unfold ErrT
 rw [hb.cell (show 0<B by omega)]; exact h
theorem Laid2.below {w w':World} (h:Laid2 w) {B:Nat} (hb:Below B w w') (hB:11≤B):Laid2 w' :=
 ⟨h.laid.below hb hB,h.et.below hb hB⟩
theorem as_hitF' (e:Addr) (T:Nat) (w:World) (hg:ErrT w) (hlt:11≤w.heap.size) (hT:w.heap[T]?=some (.cells #[.pointer none] 90)) :
  Calls Tryz.prog 38 #[.iface 90 (.pointer (some e)),.iface 92 (.pointer (some ⟨T,0,none⟩))] w fun e' w'=>e'=.returned (.bool true)∧w'.cell? ⟨T,0,none⟩=some (.pointer (some e))∧Below T w w':=by
 have hlt2:=heap_lt hT
 have hc:w.cell? ⟨T,0,none⟩=some (.pointer none):=cell_of hT 0 rfl
 refine (as_hitF e ⟨T,0,none⟩ (.pointer none) w hg hlt hc (by simp [World.frozen?,hT])).mono ?_
 rintro e' w' ⟨rfl,rfl⟩
 refine ⟨rfl,?_,?_⟩
 ·refine World.cell?_setCell_same _ _ _ (u:=.pointer none) ?_
  rw [World.cell?_alloc_lt _ _ ⟨T,0,none⟩ (by simp; omega),World.cell?_alloc_lt _ _ ⟨T,0,none⟩ (by simp; omega),World.cell?_alloc_lt _ _ ⟨T,0,none⟩ (by simp; omega),World.cell?_alloc_lt _ _ ⟨T,0,none⟩ hlt2]; exact hc
 ·exact (((((Below.refl T w).alloc (by omega) _).alloc (by simp; omega) _).alloc (by simp; omega) _).alloc (by simp; omega) _).setCell (Nat.le_refl _) _
theorem as_hitE' (n:Int) (T:Nat) (w:World) (hg:ErrT w) (hlt:11≤w.heap.size) (hT:w.heap[T]?=some (.cells #[.int .i64 0] 26)) :
  Calls Tryz.prog 38 #[.iface 26 (.int .i64 n),.iface 98 (.pointer (some ⟨T,0,none⟩))] w fun e' w'=>e'=.returned (.bool true)∧w'.cell? ⟨T,0,none⟩=some (.int .i64 n)∧Below T w w':=by
 have hlt2:=heap_lt hT
 have hc:w.cell? ⟨T,0,none⟩=some (.int .i64 0):=cell_of hT 0 rfl
 refine (as_hitE n ⟨T,0,none⟩ (.int .i64 0) w hg hlt hc (by simp [World.frozen?,hT])).mono ?_
 rintro e' w' ⟨rfl,rfl⟩
 refine ⟨rfl,?_,?_⟩
 ·refine World.cell?_setCell_same _ _ _ (u:=.int .i64 0) ?_
  rw [World.cell?_alloc_lt _ _ ⟨T,0,none⟩ (by simp; omega),World.cell?_alloc_lt _ _ ⟨T,0,none⟩ (by simp; omega),World.cell?_alloc_lt _ _ ⟨T,0,none⟩ (by simp; omega),World.cell?_alloc_lt _ _ ⟨T,0,none⟩ hlt2]; exact hc
 ·exact (((((Below.refl T w).alloc (by omega) _).alloc (by simp; omega) _).alloc (by simp; omega) _).alloc (by simp; omega) _).setCell (Nat.le_refl _) _
theorem as_missF' (n:Int) (T:Nat) (w:World) (hg:ErrT w) (hlt:11≤w.heap.size) (hT:w.heap[T]?=some (.cells #[.pointer none] 90)) :
  Calls Tryz.prog 38 #[.iface 26 (.int .i64 n),.iface 92 (.pointer (some ⟨T,0,none⟩))] w fun e' w'=>e'=.returned (.bool false)∧Below w.heap.size w w':=by
 have hc:w.cell? ⟨T,0,none⟩=some (.pointer none):=cell_of hT 0 rfl
 refine (as_missF n ⟨T,0,none⟩ (.pointer none) w hg hlt hc).mono ?_
 rintro e' w' ⟨rfl,rfl⟩
 exact ⟨rfl,(((Below.refl _ _).alloc (by omega) _).alloc (by simp) _).alloc (by simp; omega) _⟩
theorem Tell_nil (w:World):Calls Tryz.prog 16 #[.nilIface] w fun e w'=>e=.returned (.tuple #[.int .i64 0,.int .i64 0])∧Below w.heap.size w w':=by
 go_enter Tryz.func16,Tryz.ntmps16
 go_wp2_with fail
 go_ret2
 exact ⟨rfl,((Below.refl _ _).alloc (by omega) _).alloc (by simp) _⟩
theorem where_calls (a:Int) (w:World):Calls Tryz.prog 39 #[.agg #[.int .i64 a]] w fun e w'=>e=.returned (.int .i64 a)∧Below w.heap.size w w':=by
 go_enter Tryz.func39,Tryz.ntmps39
 go_wp2_with fail
 go_ret
 exact ⟨rfl,(Below.refl _ _).alloc (by omega) _⟩
theorem Tell_errno (n:Int) (w:World) (hg:ErrT w) (hlt:11≤w.heap.size):Calls Tryz.prog 16 #[.iface 26 (.int .i64 n)] w fun e w'=>e=.returned (.tuple #[.int .i64 n,.int .i64 0])∧Below w.heap.size w w':=by
 have b1:Below w.heap.size w ((w.alloc (.cells #[.pointer none] 90)).alloc (.cells #[.int .i64 0] 26)):=((Below.refl _ _).alloc (by omega) _).alloc (by simp) _
 have hF:((w.alloc (.cells #[.pointer none] 90)).alloc (.cells #[.int .i64 0] 26)).heap[w.heap.size]?=some (.cells #[.pointer none] 90):=by
  rw [Below.heap_alloc _ _ _ (by simp)]; exact heap_alloc_new _ _
 have hN:((w.alloc (.cells #[.pointer none] 90)).alloc (.cells #[.int .i64 0] 26)).heap[w.heap.size + 1]?=some (.cells #[.int .i64 0] 26):=by
  have:=heap_alloc_new (w.alloc (.cells #[.pointer none] 90)) (.cells #[.int .i64 0] 26)
  simpa using this
 have hc1:=as_missF' n w.heap.size _ (hg.below b1 hlt) (by simp; omega) hF
 go_enter Tryz.func16,Tryz.ntmps16
 go_wp2_with fail
 refine hc1.mono ?_
 rintro e w1 ⟨rfl,b2⟩
 have hN1:w1.heap[w.heap.size + 1]?=some (.cells #[.int .i64 0] 26):=by rw [b2.block _ (by simp)]; exact hN
 have b3:Below w.heap.size w w1:=b1.trans (b2.mono (by simp; omega))
 have hc2:=as_hitE' n (w.heap.size + 1) w1 (hg.below b3 hlt) (by have:=b3.size; omega) hN1
 clear hc1 hF hN hN1
 go_wp2_with fail
 refine hc2.mono ?_
 rintro e w2 ⟨rfl,hcell,b4⟩
 clear hc2
 go_wp2_with fail
 go_ret2
 exact ⟨rfl,b3.trans (b4.mono (by omega))⟩
def tellS (w0:World) (F N:Nat) (a n:Int) (w:World):Prop :=
 w.cell? ⟨F,0,none⟩=some (.pointer (some ⟨N,0,none⟩))∧w.cell? ⟨N,0,none⟩=some (.int .i64 a)∧w.cell? ⟨N,1,none⟩=some (.int .i64 n)∧Below w0.heap.size w0 w
theorem cell_lt {w:World} {p:Addr} {v:Value} (h:w.cell? p=some v):p.block<w.heap.size:=by
 rcases Nat.lt_or_ge p.block w.heap.size with k | k
 ·exact k
 ·simp [World.cell?,Array.getElem?_eq_none k] at h
theorem tellCall {w0:World} {F N:Nat} {a n:Int} {w w':World} (hb:Below w.heap.size w w') (h:tellS w0 F N a n w):tellS w0 F N a n w':=by
 obtain ⟨h1,h2,h3,h4⟩:=h
 refine ⟨?_,?_,?_,h4.trans (hb.mono h4.size)⟩
 ·rw [hb.cell (cell_lt h1)]; exact h1
 ·rw [hb.cell (cell_lt h2)]; exact h2
 ·rw [hb.cell (cell_lt h3)]; exact h3
theorem tellBelow {w0:World} {F N:Nat} {a n:Int} {w:World} (h:tellS w0 F N a n w):Below w0.heap.size w0 w:=h.2.2.2
theorem tellDrew {w0:World} {F N:Nat} {a n:Int} {w:World} (h:tellS w0 F N a n w):tellS w0 F N a n w.drew:=⟨h.1,h.2.1,h.2.2.1,h.2.2.2.drew⟩
theorem Tell_fault (N:Nat) (a n:Int) (w:World) (hg:ErrT w) (hlt:11≤w.heap.size) (hN:w.heap[N]?=some (.cells #[.int .i64 a,.int .i64 n] 96)):Calls Tryz.prog 16 #[.iface 90 (.pointer (some ⟨N,0,none⟩))] w fun e w'=>e=.returned (.tuple #[.int .i64 n,.int .i64 a])∧Below w.heap.size w w':=by
 have hNl:=heap_lt hN
 have b1:Below w.heap.size w ((w.alloc (.cells #[.pointer none] 90)).alloc (.cells #[.int .i64 0] 26)):=((Below.refl _ _).alloc (by omega) _).alloc (by simp) _
 have hF:((w.alloc (.cells #[.pointer none] 90)).alloc (.cells #[.int .i64 0] 26)).heap[w.heap.size]?=some (.cells #[.pointer none] 90):=by
  rw [Below.heap_alloc _ _ _ (by simp)]; exact heap_alloc_new _ _
 have hc1:=as_hitF' ⟨N,0,none⟩ w.heap.size _ (hg.below b1 hlt) (by simp; omega) hF
 go_enter Tryz.func16,Tryz.ntmps16
 go_wp2_with fail
 refine hc1.mono ?_
 rintro e w1 ⟨rfl,hcell,b2⟩
 have b3:Below w.heap.size w w1:=b1.trans b2
 have k:tellS w w.heap.size N a n w1:=⟨hcell,by rw [b3.cell (show N<w.heap.size from hNl)]; exact cell_of hN 0 rfl,by rw [b3.cell (show N<w.heap.size from hNl)]; exact cell_of hN 1 rfl,b3⟩
 have kd:=tellDrew k
 clear hc1 hF hN hcell b2 b3 b1 k
 go_wp2_with fail
 go_region_held3 (fun w':World=>w'.cell? ⟨w.heap.size,0,none⟩=some (.pointer (some ⟨N,0,none⟩))∧w'.cell? ⟨N,0,none⟩=some (.int .i64 a)∧w'.cell? ⟨N,1,none⟩=some (.int .i64 n)∧Below w.heap.size w w') (first | exact kd | assumption | exact tellCall (by assumption) (by assumption)) (first | (go_at_call 39; refine (where_calls a _).mono ?_; rintro e w1 ⟨rfl,hb1⟩))
 all_goals
  go_wp2_with fail
  go_ret2
  exact ⟨rfl,tellBelow (F:=w.heap.size) (N:=N) (a:=a) (n:=n) (by assumption)⟩
theorem Tell_err (v:Value) (er:Nat × Nat) (B:Nat) (w:World) (hg:ErrT w) (hlt:11≤w.heap.size) (hv:ErrAt w B v er) :
  Calls Tryz.prog 16 #[v] w fun e w'=>e=.returned (.tuple #[.int .i64 er.1,.int .i64 er.2])∧Below w.heap.size w w':=by
 rcases hv with ⟨rfl,rfl⟩ | ⟨N,_,rfl,hN⟩
 ·exact Tell_errno 1 w hg hlt
 ·exact Tell_fault N er.2 er.1 w hg hlt hN
end Go.Proofs.YtiopfihjmkfdmaaGreatDoor
