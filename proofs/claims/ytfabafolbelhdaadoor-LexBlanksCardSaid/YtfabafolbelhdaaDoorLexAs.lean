/- errors.As at a target of package api's At, of a kind within its place, and of a bare kind. -/
import Derived.Test.YtfabafolbelhdaaDoorLexFault
import Derived.Test.YtfabafolbelhdaaDoorMem
namespace Go.Proofs.YtfabafolbelhdaaDoor
open Go.ChangeShapes Go.WideShapes Go.ChangeAt Go.RowKit Go.Extern.Stop Go.Stop Go.Extern

theorem lies_mk2 (w : World) (o : Obj) (t : TypeId) (cs : Array Value) : Lies ((w.alloc o).alloc (.cells cs t)) (w.heap.size + 1) t cs.toList := by
  have := Lies.made (w.alloc o) t cs
  rwa [show (w.alloc o).heap.size = w.heap.size + 1 by simp] at this
theorem Tryd.elemOfT (w : World) : (Rtype.elem? 60).run Tryd.prog w = .ok (some 58) w := by kernel_rfl
theorem Tryd.mkA (p : Addr) (w : World) : (ReflectliteValue.mk 58 p ReflectliteValue.flagAddr).run Tryd.prog w = .ok (.agg #[.pointer (some ⟨1, 58, none⟩), .pointer (some p), .int .u64 409]) w := by kernel_rfl
theorem Tryd.elemVT (a p : Addr) (W : World) (ha : W.cell? a = some (.pointer (some p))) :
    (ReflectliteValue.method (ReflectliteValue.valueError "reflectlite.Value.Elem" 0) ReflectliteValue.elem #[.agg #[.pointer (some ⟨1, 60, none⟩), .pointer (some a), .int .u64 150]]).run Tryd.prog W
      = .ok (.agg #[.pointer (some ⟨1, 58, none⟩), .pointer (some p), .int .u64 409]) W := by
  rw [rlm]
  simp only [Sem.run_bind, Tryd.partsT, Result.andThen]
  simp [ReflectliteValue.elem, loadVar, isAgg, underlying, Tryd.underlying60, ha, Result.andThen, Tryd.elemOfT, Tryd.mkA]
theorem rls (v x : Value) : ReflectliteValue.set #[v, x] = (do
    let (some (dst, a, fl), some (src, b, _)) := (← ReflectliteValue.parts v, ← ReflectliteValue.parts x)
      | unsupported (.noEntry "extern/(internal/reflectlite.Value).Set.zeroValue")
    if fl / ReflectliteValue.flagAddr % 2 == 0 then unsupported (.noEntry "extern/(internal/reflectlite.Value).Set.unaddressable")
    let val ← loadVar src b
    if ← Rtype.directlyAssignable dst src then storeVar dst a val
    else if ← Rtype.implements dst src then
      if (← Rtype.kind src) == 20 then
        match val with
        | .nilIface => unsupported (.noEntry "extern/reflectlite: a nil value of one interface type handed on as a value of another")
        | _ => storeVar dst a val
      else storeVar dst a (.iface src val)
    else panicString ("reflectlite.Set: value of type " ++ (← Rtype.spelt src) ++ " is not assignable to type " ++ (← Rtype.spelt dst))
    pure (.tuple #[])) := rfl
theorem Tryd.partsAa (a : Addr) (w : World) : (ReflectliteValue.parts (.agg #[.pointer (some ⟨1, 58, none⟩), .pointer (some a), .int .u64 409])).run Tryd.prog w = .ok (some (58, a, 409)) w := by kernel_rfl
theorem Tryd.partsA (a : Addr) (w : World) : (ReflectliteValue.parts (.agg #[.pointer (some ⟨1, 58, none⟩), .pointer (some a), .int .u64 153])).run Tryd.prog w = .ok (some (58, a, 153)) w := by kernel_rfl
theorem Tryd.directA (w : World) : (Rtype.directlyAssignable 58 58).run Tryd.prog w = .ok true w := by kernel_rfl
theorem Tryd.sizeA (w : World) : (sizeOf 58).run Tryd.prog w = .ok 3 w := by kernel_rfl
theorem Tryd.loadA (b : Nat) (x0 x1 x2 : Value) (W : World) (h0 : W.cell? ⟨b, 0, none⟩ = some x0) (h1 : W.cell? ⟨b, 1, none⟩ = some x1) (h2 : W.cell? ⟨b, 2, none⟩ = some x2) :
    (loadVar 58 ⟨b, 0, none⟩).run Tryd.prog W = .ok (.agg #[x0, x1, x2]) W := by
  have h := run_loadCells_list (P := Tryd.prog) (w := W) ⟨b, 0, none⟩ [x0, x1, x2] (fun j v hj => by
    have hadd : (⟨b, 0, none⟩ : Addr).add j = ⟨b, j, none⟩ := by unfold Addr.add; split <;> simp_all
    rw [hadd]
    match j, hj with
    | 0, hj => simp at hj; rw [h0, hj]
    | 1, hj => simp at hj; rw [h1, hj]
    | 2, hj => simp at hj; rw [h2, hj]
    | j + 3, hj => simp at hj)
  simp only [List.length_cons, List.length_nil] at h
  simp [loadVar, isAgg, underlying, Tryd.underlying58, Result.andThen]
  rw [show loadCells ⟨b, 0, none⟩ 3 = loadCells ⟨b, 0, none⟩ (0 + 1 + 1 + 1) from rfl, h]
theorem Tryd.storeA (b : Nat) (x0 x1 x2 : Value) (W : World) (t : TypeId) (o0 o1 o2 : Value) (hL : Lies W b t [o0, o1, o2]) (k0 : x0.oneCell' = true) (k1 : x1.oneCell' = true) (k2 : x2.oneCell' = true) :
    (storeVar 58 ⟨b, 0, none⟩ (.agg #[x0, x1, x2])).run Tryd.prog W = .ok () (((W.setCell ⟨b, 0, none⟩ x0).setCell ⟨b, 1, none⟩ x1).setCell ⟨b, 2, none⟩ x2) := by
  have c0 := hL.cell 0
  have f0 := hL.free 0
  have hL1 := hL.stored 0 x0
  have c1 := hL1.cell 1
  have f1 := hL1.free 1
  have hL2 := hL1.stored 1 x1
  have c2 := hL2.cell 2
  have f2 := hL2.free 2
  simp only [List.set_cons_zero, List.set_cons_succ, List.getElem?_cons_zero, List.getElem?_cons_succ] at c0 c1 c2
  simp [storeVar, Value.cells, storeCells, Addr.add]
  rw [run_store Tryd.prog W ⟨b, 0, none⟩ x0 _ k0]
  simp only [c0, f0, Bool.false_eq_true, if_false, Result.andThen]
  rw [run_store Tryd.prog _ ⟨b, 1, none⟩ x1 _ k1]
  simp only [c1, f1, Bool.false_eq_true, if_false]
  rw [run_store Tryd.prog _ ⟨b, 2, none⟩ x2 _ k2]
  simp only [c2, f2, Bool.false_eq_true, if_false]
/-- (Value).Set: the target gets what the error's own Value holds -/
theorem Tryd.setA (b q : Nat) (x0 x1 x2 : Value) (W : World) (t : TypeId) (o0 o1 o2 : Value) (hL : Lies W b t [o0, o1, o2]) (h0 : W.cell? ⟨q, 0, none⟩ = some x0) (h1 : W.cell? ⟨q, 1, none⟩ = some x1) (h2 : W.cell? ⟨q, 2, none⟩ = some x2) (k0 : x0.oneCell' = true) (k1 : x1.oneCell' = true) (k2 : x2.oneCell' = true) :
    (ReflectliteValue.set #[.agg #[.pointer (some ⟨1, 58, none⟩), .pointer (some ⟨b, 0, none⟩), .int .u64 409], .agg #[.pointer (some ⟨1, 58, none⟩), .pointer (some ⟨q, 0, none⟩), .int .u64 153]]).run Tryd.prog W
      = .ok (.tuple #[]) (((W.setCell ⟨b, 0, none⟩ x0).setCell ⟨b, 1, none⟩ x1).setCell ⟨b, 2, none⟩ x2) := by
  rw [rls]
  simp only [Sem.run_bind, Tryd.partsAa, Tryd.partsA, Result.andThen]
  simp [ReflectliteValue.flagAddr, Tryd.loadA q x0 x1 x2 W h0 h1 h2, Result.andThen, Tryd.directA, Tryd.storeA b x0 x1 x2 W t o0 o1 o2 hL k0 k1 k2]

theorem below3' (w : World) (o1 o2 o3 : Obj) : Below w.heap.size w (((w.alloc o1).alloc o2).alloc o3) := (((Below.refl _ w).alloc (Nat.le_refl _) o1).alloc (by simp) o2).alloc (by simp; omega) o3
/-- the library's variable of the type of errors stands -/
def ETab (w : World) : Prop := w.cell? ⟨0, 0, none⟩ = some (.iface 94 (.agg #[.pointer (some ⟨1, 25, none⟩)]))
theorem ETab.lt {w : World} (h : ETab w) : 0 < w.heap.size := World.block_lt_of_cell? w _ h
theorem ETab.on {w w' : World} (h : ETab w) (k : Went w w') : ETab w' := (k.cell (p := ⟨0, 0, none⟩) h.lt).trans h

set_option maxHeartbeats 4000000 in
theorem as_hit (l c k : Int) (t : Nat) (o0 o1 o2 : Value) (w : World) (hg : ETab w) (hL : Lies w t 58 [o0, o1, o2]) :
    Calls Tryd.prog 20 #[atv l c k, .iface 60 (.pointer (some ⟨t, 0, none⟩))] w fun ev w' => ev = .returned (.bool true) ∧ Lies w' t 58 [.int .i64 l, .int .i64 c, .iface 48 (.int .i64 k)] ∧ Turns (fun g => g = t) w w' := by
  have h6 := @run_callFunc_extern Tryd.prog 32 _ (fun args => ReflectliteValue.unpack (args.getD 0 (.tuple #[]))) Tryd.func32 (by kernel_rfl) (by kernel_rfl) (by kernel_rfl) (by kernel_rfl)
  have h7 := @run_callFunc_extern Tryd.prog 33 _ (ReflectliteValue.methodAny (ReflectliteValue.valueError "reflectlite.Value.Type" 0) (fun t _ _ _ => ReflectliteType.toType t)) Tryd.func33 (by kernel_rfl) (by kernel_rfl) (by kernel_rfl) (by kernel_rfl)
  have h8 := @run_callFunc_extern Tryd.prog 34 _ (ReflectliteValue.method (ReflectliteValue.valueError "reflectlite.Value.IsNil" 0) ReflectliteValue.isNil) Tryd.func34 (by kernel_rfl) (by kernel_rfl) (by kernel_rfl) (by kernel_rfl)
  have h27 := @run_callFunc_extern Tryd.prog 81 _ (ReflectliteType.abiMethod fun t => do pure (.int .u8 (← Rtype.kind t))) Tryd.func81 (by kernel_rfl) (by kernel_rfl) (by kernel_rfl) (by kernel_rfl)
  have h37 := @run_callFunc_extern Tryd.prog 93 _ (ReflectliteType.method ReflectliteType.elem) Tryd.func93 (by kernel_rfl) (by kernel_rfl) (by kernel_rfl) (by kernel_rfl)
  have h38 := @run_callFunc_extern Tryd.prog 94 _ (ReflectliteType.relation "Implements" ReflectliteType.implements_) Tryd.func94 (by kernel_rfl) (by kernel_rfl) (by kernel_rfl) (by kernel_rfl)
  have h10 := @run_callFunc_extern Tryd.prog 30 _ ReflectliteType.typeOf Tryd.func30 (by kernel_rfl) (by kernel_rfl) (by kernel_rfl) (by kernel_rfl)
  have h35 := @run_callFunc_extern Tryd.prog 91 _ (ReflectliteType.relation "AssignableTo" ReflectliteType.assignableTo) Tryd.func91 (by kernel_rfl) (by kernel_rfl) (by kernel_rfl) (by kernel_rfl)
  have h11 := @run_callFunc_extern Tryd.prog 43 _ (ReflectliteValue.method (ReflectliteValue.valueError "reflectlite.Value.Elem" 0) ReflectliteValue.elem) Tryd.func43 (by kernel_rfl) (by kernel_rfl) (by kernel_rfl) (by kernel_rfl)
  have h12 := @run_callFunc_extern Tryd.prog 44 _ ReflectliteValue.set Tryd.func44 (by kernel_rfl) (by kernel_rfl) (by kernel_rfl) (by kernel_rfl)
  have tO := Tryd.typeOfA
  have mA := Tryd.methodAssignableTo
  have a25 := Tryd.assignableA
  have v25 := Tryd.valueOfA
  have f6 := Tryd.valueOfT
  have f7 := Tryd.typeT
  have mK := Tryd.methodKind
  have mE := Tryd.methodElem
  have mI := Tryd.methodImplements
  have k27 := Tryd.kindT
  have k25 := Tryd.kindA
  have e27 := Tryd.elemT
  have i25 := Tryd.implementsA
  have hnil : ∀ (v : Value) (w : World), (binOp .eql 25 (.iface 58 v) .nilIface).run Tryd.prog w = .ok (.bool false) w := fun v w => by kernel_rfl
  have hlt := hg.lt
  have htl := hL.lt
  obtain ⟨w1, hw1⟩ : ∃ w1, w1 = (w.alloc (.cells #[.pointer (some ⟨t, 0, none⟩)] 60)).alloc (.cells #[.pointer (some ⟨1, 60, none⟩), .pointer (some ⟨w.heap.size, 0, none⟩), .int .u64 150] 78) := ⟨_, rfl⟩
  have c1 : w1.cell? ⟨w.heap.size, 0, none⟩ = some (.pointer (some ⟨t, 0, none⟩)) := by rw [hw1]; simp
  have n8 := Tryd.isNilT ⟨w.heap.size, 0, none⟩ ⟨t, 0, none⟩ w1 c1
  have g1 : w1.cell? ⟨0, 0, none⟩ = some (.iface 94 (.agg #[.pointer (some ⟨1, 25, none⟩)])) := by
    rw [hw1, World.cell?_alloc_lt _ _ ⟨0, 0, none⟩ (by simp), World.cell?_alloc_lt _ _ ⟨0, 0, none⟩ hlt]; exact hg
  have el := Tryd.elemVT ⟨w.heap.size, 0, none⟩ ⟨t, 0, none⟩ (w1.alloc (.cells #[.pointer (some ⟨1, 60, none⟩), .pointer (some ⟨w.heap.size, 0, none⟩), .int .u64 150] 78)) (by rw [World.cell?_alloc_lt _ _ ⟨w.heap.size, 0, none⟩ (by rw [hw1]; simp; omega)]; exact c1)
  have hL4 : Lies ((w1.alloc (.cells #[.pointer (some ⟨1, 60, none⟩), .pointer (some ⟨w.heap.size, 0, none⟩), .int .u64 150] 78)).alloc (.cells #[.int .i64 l, .int .i64 c, .iface 48 (.int .i64 k)] 58)) t 58 [o0, o1, o2] := by
    rw [hw1]; exact (((hL.alloc _).alloc _).alloc _).alloc _
  have hw1z : w1.heap.size = w.heap.size + 1 + 1 := by rw [hw1]; simp
  have hA4 := lies_mk2 w1 (.cells #[.pointer (some ⟨1, 60, none⟩), .pointer (some ⟨w.heap.size, 0, none⟩), .int .u64 150] 78) 58 #[.int .i64 l, .int .i64 c, .iface 48 (.int .i64 k)]
  rw [hw1z] at hA4
  have st := Tryd.setA t (w.heap.size + 1 + 1 + 1) (.int .i64 l) (.int .i64 c) (.iface 48 (.int .i64 k)) _ 58 o0 o1 o2 hL4 (hA4.cell 0) (hA4.cell 1) (hA4.cell 2) rfl rfl rfl
  have hfin := ((hL4.stored 0 (.int .i64 l)).stored 1 (.int .i64 c)).stored 2 (.iface 48 (.int .i64 k))
  subst hw1
  have hfin' := Lib.hid hfin
  clear hfin hL4 hA4 c1 hw1z
  unfold atv
  go_enter Tryd.func20, Tryd.ntmps20
  go_wp2
  refine wp_loop_rounds 1 ?_
  rw [rounds_succ]
  go_wp2
  go_ret
  refine ⟨rfl, hfin'.out, ?_⟩
  exact ((((((((Turns.refl (fun g => g = t) w).alloc _).alloc _).alloc _).alloc _).setCell (p := ⟨t, 0, none⟩) (fun _ => rfl) _).setCell (p := ⟨t, 1, none⟩) (fun _ => rfl) _).setCell (p := ⟨t, 2, none⟩) (fun _ => rfl) _)

theorem Tryd.noAs (v : Value) (xT : TypeId) (w : World) : (Instr.typeAssert (.iface 48 v) xT 106 true).run Tryd.prog w = .ok (.tuple #[.nilIface, .bool false]) w := run_typeAssert_lacksB Tryd.underlying106 (by kernel_rfl) (by kernel_rfl) v xT w
set_option maxHeartbeats 4000000 in
theorem as_miss (k : Int) (t : Nat) (w : World) (hg : ETab w) :
    Calls Tryd.prog 20 #[.iface 48 (.int .i64 k), .iface 60 (.pointer (some ⟨t, 0, none⟩))] w fun ev w' => ev = .returned (.bool false) ∧ Went w w' := by
  have h6 := @run_callFunc_extern Tryd.prog 32 _ (fun args => ReflectliteValue.unpack (args.getD 0 (.tuple #[]))) Tryd.func32 (by kernel_rfl) (by kernel_rfl) (by kernel_rfl) (by kernel_rfl)
  have h7 := @run_callFunc_extern Tryd.prog 33 _ (ReflectliteValue.methodAny (ReflectliteValue.valueError "reflectlite.Value.Type" 0) (fun t _ _ _ => ReflectliteType.toType t)) Tryd.func33 (by kernel_rfl) (by kernel_rfl) (by kernel_rfl) (by kernel_rfl)
  have h8 := @run_callFunc_extern Tryd.prog 34 _ (ReflectliteValue.method (ReflectliteValue.valueError "reflectlite.Value.IsNil" 0) ReflectliteValue.isNil) Tryd.func34 (by kernel_rfl) (by kernel_rfl) (by kernel_rfl) (by kernel_rfl)
  have h27 := @run_callFunc_extern Tryd.prog 81 _ (ReflectliteType.abiMethod fun t => do pure (.int .u8 (← Rtype.kind t))) Tryd.func81 (by kernel_rfl) (by kernel_rfl) (by kernel_rfl) (by kernel_rfl)
  have h37 := @run_callFunc_extern Tryd.prog 93 _ (ReflectliteType.method ReflectliteType.elem) Tryd.func93 (by kernel_rfl) (by kernel_rfl) (by kernel_rfl) (by kernel_rfl)
  have h38 := @run_callFunc_extern Tryd.prog 94 _ (ReflectliteType.relation "Implements" ReflectliteType.implements_) Tryd.func94 (by kernel_rfl) (by kernel_rfl) (by kernel_rfl) (by kernel_rfl)
  have h10 := @run_callFunc_extern Tryd.prog 30 _ ReflectliteType.typeOf Tryd.func30 (by kernel_rfl) (by kernel_rfl) (by kernel_rfl) (by kernel_rfl)
  have h35 := @run_callFunc_extern Tryd.prog 91 _ (ReflectliteType.relation "AssignableTo" ReflectliteType.assignableTo) Tryd.func91 (by kernel_rfl) (by kernel_rfl) (by kernel_rfl) (by kernel_rfl)
  have tO := Tryd.typeOfK
  have mA := Tryd.methodAssignableTo
  have a25 := Tryd.assignableK
  have f6 := Tryd.valueOfT
  have f7 := Tryd.typeT
  have mK := Tryd.methodKind
  have mE := Tryd.methodElem
  have mI := Tryd.methodImplements
  have k27 := Tryd.kindT
  have k25 := Tryd.kindA
  have e27 := Tryd.elemT
  have i25 := Tryd.implementsA
  have s1 := Tryd.noAs
  have s2 := Tryd.noUnwrap
  have s3 := Tryd.noUnwraps
  have hnil : ∀ (v : Value) (w : World), (binOp .eql 25 (.iface 48 v) .nilIface).run Tryd.prog w = .ok (.bool false) w := fun v w => by kernel_rfl
  have hlt := hg.lt
  obtain ⟨w1, hw1⟩ : ∃ w1, w1 = (w.alloc (.cells #[.pointer (some ⟨t, 0, none⟩)] 60)).alloc (.cells #[.pointer (some ⟨1, 60, none⟩), .pointer (some ⟨w.heap.size, 0, none⟩), .int .u64 150] 78) := ⟨_, rfl⟩
  have c1 : w1.cell? ⟨w.heap.size, 0, none⟩ = some (.pointer (some ⟨t, 0, none⟩)) := by rw [hw1]; simp
  have n8 := Tryd.isNilT ⟨w.heap.size, 0, none⟩ ⟨t, 0, none⟩ w1 c1
  have g1 : w1.cell? ⟨0, 0, none⟩ = some (.iface 94 (.agg #[.pointer (some ⟨1, 25, none⟩)])) := by
    rw [hw1, World.cell?_alloc_lt _ _ ⟨0, 0, none⟩ (by simp), World.cell?_alloc_lt _ _ ⟨0, 0, none⟩ hlt]; exact hg
  subst hw1
  clear c1
  go_enter Tryd.func20, Tryd.ntmps20
  go_wp2
  refine wp_loop_rounds 1 ?_
  rw [rounds_succ]
  go_wp2
  go_ret
  exact ⟨rfl, below3' w _ _ _⟩
end Go.Proofs.YtfabafolbelhdaaDoor
