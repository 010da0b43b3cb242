/- errors.Is and errors.As over a kind within its place; what the laws' Fault tells of an error. -/
import Derived.Test.YtfabafolbelhdaaDoorLexWord
namespace Go.Proofs.YtfabafolbelhdaaDoor
open Go.ChangeShapes Go.WideShapes Go.ChangeAt Go.RowKit Go.Extern.Stop Go.Stop Go.Extern

/-- an error with its place -/
def atv (l c k : Int) : Value := .iface 58 (.agg #[.int .i64 l, .int .i64 c, .iface 48 (.int .i64 k)])
theorem Tryd.atNoIs (v : Value) (xT : TypeId) (w : World) : (Instr.typeAssert (.iface 58 v) xT 96 true).run Tryd.prog w = .ok (.tuple #[.nilIface, .bool false]) w := run_typeAssert_lacksB Tryd.underlying96 (by kernel_rfl) (by kernel_rfl) v xT w
theorem Tryd.atUnwrap (v : Value) (xT : TypeId) (w : World) : (Instr.typeAssert (.iface 58 v) xT 99 true).run Tryd.prog w = .ok (.tuple #[.iface 58 v, .bool true]) w := run_typeAssert_hasB Tryd.underlying99 (by kernel_rfl) v xT w
theorem Unwrap_any (l c k : Int) (w : World) :
    Calls Tryd.prog 86 #[.agg #[.int .i64 l, .int .i64 c, .iface 48 (.int .i64 k)]] w fun e w' => e = .returned (.iface 48 (.int .i64 k)) ∧ Went w w' := by
  go_enter Tryd.func86, Tryd.ntmps86
  go_wp2
  go_ret
  exact ⟨rfl, (Below.refl _ _).alloc (Nat.le_refl _) _⟩
theorem is_loop_at (l c k j : Int) (b : Bool) (hab : (k == j) = b) (w : World) :
    Calls Tryd.prog 31 #[atv l c k, .iface 48 (.int .i64 j), .bool true] w fun e w' => e = .returned (.bool b) ∧ Went w w' := by
  obtain ⟨i, hi, hcmp⟩ := Option.map_eq_some_iff.1 Tryd.isComp
  have heq := fun w => run_eql_iface_int (P := Tryd.prog) w k j Tryd.underlying25 Tryd.underlying48 hi hcmp
  simp only [hab] at heq
  have heq2 := fun (v : Value) (w : World) => run_eql_iface_types (P := Tryd.prog) (ti := 25) 58 48 v (.int .i64 j) Tryd.underlying25 (by decide) w
  clear hi hcmp hab
  have m1 := Tryd.atNoIs
  have m2 := Tryd.atUnwrap
  have n1 := Tryd.noIs
  have n2 := Tryd.noUnwrap
  have n3 := Tryd.noUnwraps
  unfold atv
  cases b
  · go_enter Tryd.func31, Tryd.ntmps31
    go_wp2
    refine wp_loop_rounds 2 ?_
    rw [rounds_succ]
    go_wp2_with (go_at_call 86; refine (Unwrap_any l c k _).mono ?_; rintro e w1 ⟨rfl, hb⟩)
    rw [rounds_succ]
    go_wp2
    go_ret
    exact ⟨rfl, hb⟩
  · go_enter Tryd.func31, Tryd.ntmps31
    go_wp2
    refine wp_loop_rounds 2 ?_
    rw [rounds_succ]
    go_wp2_with (go_at_call 86; refine (Unwrap_any l c k _).mono ?_; rintro e w1 ⟨rfl, hb⟩)
    rw [rounds_succ]
    go_wp2
    go_ret
    exact ⟨rfl, hb⟩
/-- errors.Is of a kind within its place -/
theorem is_at (l c k j : Int) (b : Bool) (hab : (k == j) = b) (w : World) :
    Calls Tryd.prog 19 #[atv l c k, .iface 48 (.int .i64 j)] w fun e w' => e = .returned (.bool b) ∧ Went w w' := by
  have tT := Tryd.isTypeOf
  have cT := Tryd.isComparable
  have HH := Lib.hid (is_loop_at l c k j b hab w)
  have hx : ∀ (v : Value) (w : World), (binOp .eql 25 (.iface 58 v) .nilIface).run Tryd.prog w = .ok (.bool false) w := fun v w => by kernel_rfl
  clear hab
  unfold atv at HH ⊢
  go_enter Tryd.func19, Tryd.ntmps19
  go_wp2_with (go_at_call 31; refine HH.out.mono ?_; rintro e w1 ⟨rfl, hb⟩)
  go_ret
  exact ⟨rfl, hb⟩

/-! ### errors.As at a target of package api's At -/
theorem as_nil (t : Value) (w : World) :
    Calls Tryd.prog 20 #[.nilIface, t] w fun e w' => e = .returned (.bool false) ∧ w = w' := by
  go_enter Tryd.func20, Tryd.ntmps20
  go_wp2
  go_ret
  exact ⟨rfl, rfl⟩
theorem Tryd.valueOfT (t : Addr) (w : World) : (ReflectliteValue.unpack (.iface 60 (.pointer (some t)))).run Tryd.prog w
    = .ok (.agg #[.pointer (some ⟨1, 60, none⟩), .pointer (some ⟨w.heap.size, 0, none⟩), .int .u64 150]) (w.alloc (.cells #[.pointer (some t)] 60)) := by kernel_rfl
theorem Tryd.typeT (a : Addr) (w : World) : (ReflectliteValue.methodAny (ReflectliteValue.valueError "reflectlite.Value.Type" 0) (fun t _ _ _ => ReflectliteType.toType t) #[.agg #[.pointer (some ⟨1, 60, none⟩), .pointer (some a), .int .u64 150]]).run Tryd.prog w
    = .ok (.iface 94 (.agg #[.pointer (some ⟨1, 60, none⟩)])) w := by kernel_rfl
theorem Tryd.methodKind (h : Value) (w : World) : (Go.method 252 94 (.agg #[h]) "Kind").run Tryd.prog w = .ok (81, h) w := by kernel_rfl
theorem Tryd.kindT (w : World) : ((ReflectliteType.abiMethod fun t => (fun a : Nat => Value.int IntKind.u8 (a : Int)) <$> Rtype.kind t) #[.pointer (some ⟨1, 60, none⟩)]).run Tryd.prog w = .ok (.int .u8 22) w := by kernel_rfl
theorem Tryd.kindA (w : World) : ((ReflectliteType.abiMethod fun t => (fun a : Nat => Value.int IntKind.u8 (a : Int)) <$> Rtype.kind t) #[.pointer (some ⟨1, 58, none⟩)]).run Tryd.prog w = .ok (.int .u8 25) w := by kernel_rfl
theorem rlm (z : Sem Value) (f : TypeId → Addr → Nat → Nat → Sem Value) (v : Value) :
    ReflectliteValue.method z f #[v] = (do match ← ReflectliteValue.parts v with | none => z | some (t, a, fl) => f t a fl (fl % 32)) := rfl
theorem Tryd.partsT (a : Addr) (w : World) : (ReflectliteValue.parts (.agg #[.pointer (some ⟨1, 60, none⟩), .pointer (some a), .int .u64 150])).run Tryd.prog w = .ok (some (60, a, 150)) w := by kernel_rfl
theorem Tryd.isNilT (a p : Addr) (W : World) (ha : W.cell? a = some (.pointer (some p))) :
    (ReflectliteValue.method (ReflectliteValue.valueError "reflectlite.Value.IsNil" 0) ReflectliteValue.isNil #[.agg #[.pointer (some ⟨1, 60, none⟩), .pointer (some a), .int .u64 150]]).run Tryd.prog W = .ok (.bool false) W := by
  rw [rlm]
  simp only [Sem.run_bind, Tryd.partsT, Result.andThen]
  simp [ReflectliteValue.isNil, loadVar, isAgg, underlying, Tryd.underlying60, ha, Result.andThen]
theorem Tryd.methodElem (h : Value) (w : World) : (Go.method 252 94 (.agg #[h]) "Elem").run Tryd.prog w = .ok (93, .agg #[h]) w := by kernel_rfl
theorem Tryd.methodImplements (h : Value) (w : World) : (Go.method 252 94 (.agg #[h]) "Implements").run Tryd.prog w = .ok (94, .agg #[h]) w := by kernel_rfl
theorem Tryd.methodAssignableTo (h : Value) (w : World) : (Go.method 252 94 (.agg #[h]) "AssignableTo").run Tryd.prog w = .ok (91, .agg #[h]) w := by kernel_rfl
theorem Tryd.elemT (w : World) : (ReflectliteType.method ReflectliteType.elem #[.agg #[.pointer (some ⟨1, 60, none⟩)]]).run Tryd.prog w = .ok (.iface 94 (.agg #[.pointer (some ⟨1, 58, none⟩)])) w := by kernel_rfl
theorem Tryd.implementsA (w : World) : (ReflectliteType.relation "Implements" ReflectliteType.implements_ #[.agg #[.pointer (some ⟨1, 58, none⟩)], .iface 94 (.agg #[.pointer (some ⟨1, 25, none⟩)])]).run Tryd.prog w = .ok (.bool true) w := by kernel_rfl
theorem Tryd.typeOfA (v : Value) (w : World) : (ReflectliteType.typeOf #[.iface 58 v]).run Tryd.prog w = .ok (.iface 94 (.agg #[.pointer (some ⟨1, 58, none⟩)])) w := by kernel_rfl
theorem Tryd.typeOfK (v : Value) (w : World) : (ReflectliteType.typeOf #[.iface 48 v]).run Tryd.prog w = .ok (.iface 94 (.agg #[.pointer (some ⟨1, 48, none⟩)])) w := by kernel_rfl
theorem Tryd.assignableA (w : World) : (ReflectliteType.relation "AssignableTo" ReflectliteType.assignableTo #[.agg #[.pointer (some ⟨1, 58, none⟩)], .iface 94 (.agg #[.pointer (some ⟨1, 58, none⟩)])]).run Tryd.prog w = .ok (.bool true) w := by kernel_rfl
theorem Tryd.assignableK (w : World) : (ReflectliteType.relation "AssignableTo" ReflectliteType.assignableTo #[.agg #[.pointer (some ⟨1, 48, none⟩)], .iface 94 (.agg #[.pointer (some ⟨1, 58, none⟩)])]).run Tryd.prog w = .ok (.bool false) w := by kernel_rfl
theorem Tryd.valueOfA (a b c : Value) (w : World) : (ReflectliteValue.unpack (.iface 58 (.agg #[a, b, c]))).run Tryd.prog w
    = .ok (.agg #[.pointer (some ⟨1, 58, none⟩), .pointer (some ⟨w.heap.size, 0, none⟩), .int .u64 153]) (w.alloc (.cells #[a, b, c] 58)) := by kernel_rfl
end Go.Proofs.YtfabafolbelhdaaDoor
