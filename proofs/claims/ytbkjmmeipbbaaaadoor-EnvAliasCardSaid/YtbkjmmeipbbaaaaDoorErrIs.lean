/- errors.Is over two errors that are kinds of package api, bare (not wrapped): true just if they are the same kind. Go's own text of errors.Is is walked. -/
import Derived.Test.YtbkjmmeipbbaaaaDoorRows
import Derived.WalkKit
import Derived.ProofKit
import Derived.OpenShut
import Derived.LaidEql
import Derived.Stop.Asserts
import Derived.RowKitTokens
import Derived.Handy
import Derived.Lib.Hide
namespace Go.Proofs.YtbkjmmeipbbaaaaDoor
open Go.RowKit Go.Extern.Stop Go.Stop Go.Extern

section
variable {P : Program} (w : World)
theorem run_equalIn_iface_int (d : Nat) {ti tn : TypeId} {ms : Array (String × TypeId)} {i : TypeInfo} {k : IntKind} (a b : Int)
    (hi : P.underlying ti = some (.interface ms)) (hn : P.underlying tn = some (.int k)) (hinfo : P.info? tn = some i) (hcomp : i.comparable = true) :
    (Op.equalIn (d + 2) ti (.iface tn (.int k a)) (.iface tn (.int k b))).run P w = .ok (a == b) w := by
  simp [Op.equalIn, run_underlying hi, run_underlying hn, typeInfo, hinfo, hcomp]
/-- two interface values of one integer type are equal as their numbers are -/
theorem run_eql_iface_int {ti tn : TypeId} {ms : Array (String × TypeId)} {i : TypeInfo} {k : IntKind} (a b : Int)
    (hi : P.underlying ti = some (.interface ms)) (hn : P.underlying tn = some (.int k)) (hinfo : P.info? tn = some i) (hcomp : i.comparable = true) :
    (binOp .eql ti (.iface tn (.int k a)) (.iface tn (.int k b))).run P w = .ok (.bool (a == b)) w := by
  simp only [binOp]
  simp [Op.equal, Op.maxDepth, run_equalIn_iface_int w 9998 a b hi hn hinfo hcomp]
end

theorem Tryd.isTypeOf (v : Value) (w : World) : (callFunc 33 #[.iface 57 v]).run Tryd.prog w = .ok (.value (.iface 94 (.agg #[.pointer (some ⟨4, 57, none⟩)]))) w := by kernel_rfl
theorem Tryd.isComparable (w : World) : (callFunc 90 #[.agg #[.pointer (some ⟨4, 57, none⟩)]]).run Tryd.prog w = .ok (.value (.bool true)) w := by kernel_rfl
theorem Tryd.isComp : (Tryd.prog.info? 57).map (·.comparable) = some true := by kernel_rfl

theorem is_loop_same (a : Int) (w : World) :
    Calls Tryd.prog 34 #[.iface 57 (.int .i64 a), .iface 57 (.int .i64 a), .bool true] w fun e w' => e = .returned (.bool true) ∧ w = w' := by
  obtain ⟨i, hi, hcmp⟩ := Option.map_eq_some_iff.1 Tryd.isComp
  have heq := fun w => run_eql_iface_int (P := Tryd.prog) w a a Tryd.underlying37 Tryd.underlying57 hi hcmp
  simp only [beq_self_eq_true] at heq
  clear hi hcmp
  go_enter Tryd.func34, Tryd.ntmps34
  go_wp2
  refine wp_loop_rounds 1 ?_
  rw [rounds_succ]
  go_wp2
  go_ret
  exact ⟨rfl, rfl⟩

/-- errors.Is(k, k), k a kind -/
theorem is_same (a : Int) (w : World) :
    Calls Tryd.prog 19 #[.iface 57 (.int .i64 a), .iface 57 (.int .i64 a)] w fun e w' => e = .returned (.bool true) ∧ w = w' := by
  have tT := Tryd.isTypeOf
  have cT := Tryd.isComparable
  go_enter Tryd.func19, Tryd.ntmps19
  go_wp2_with (go_at_call 34; refine (is_loop_same _ _).mono ?_; rintro e w' ⟨rfl, rfl⟩)
  go_ret
  exact ⟨rfl, rfl⟩

theorem Tryd.noIs (v : Value) (xT : TypeId) (w : World) : (Instr.typeAssert (.iface 57 v) xT 96 true).run Tryd.prog w = .ok (.tuple #[.nilIface, .bool false]) w := run_typeAssert_lacksB Tryd.underlying96 (by kernel_rfl) (by kernel_rfl) v xT w
theorem Tryd.noUnwrap (v : Value) (xT : TypeId) (w : World) : (Instr.typeAssert (.iface 57 v) xT 99 true).run Tryd.prog w = .ok (.tuple #[.nilIface, .bool false]) w := run_typeAssert_lacksB Tryd.underlying99 (by kernel_rfl) (by kernel_rfl) v xT w
theorem Tryd.noUnwraps (v : Value) (xT : TypeId) (w : World) : (Instr.typeAssert (.iface 57 v) xT 101 true).run Tryd.prog w = .ok (.tuple #[.nilIface, .bool false]) w := run_typeAssert_lacksB Tryd.underlying101 (by kernel_rfl) (by kernel_rfl) v xT w

theorem is_loop_other (a b : Int) (hab : (a == b) = false) (w : World) :
    Calls Tryd.prog 34 #[.iface 57 (.int .i64 a), .iface 57 (.int .i64 b), .bool true] w fun e w' => e = .returned (.bool false) ∧ w = w' := by
  obtain ⟨i, hi, hcmp⟩ := Option.map_eq_some_iff.1 Tryd.isComp
  have heq := fun w => run_eql_iface_int (P := Tryd.prog) w a b Tryd.underlying37 Tryd.underlying57 hi hcmp
  simp only [hab] at heq
  clear hi hcmp hab
  have n1 := Tryd.noIs
  have n2 := Tryd.noUnwrap
  have n3 := Tryd.noUnwraps
  go_enter Tryd.func34, Tryd.ntmps34
  go_wp2
  refine wp_loop_rounds 1 ?_
  rw [rounds_succ]
  go_wp2
  go_ret
  exact ⟨rfl, rfl⟩

/-- errors.Is(k, j), of two kinds -/
theorem is_other (a b : Int) (hab : (a == b) = false) (w : World) :
    Calls Tryd.prog 19 #[.iface 57 (.int .i64 a), .iface 57 (.int .i64 b)] w fun e w' => e = .returned (.bool false) ∧ w = w' := by
  have tT := Tryd.isTypeOf
  have cT := Tryd.isComparable
  have HH := Lib.hid (is_loop_other a b hab w)
  clear hab
  go_enter Tryd.func19, Tryd.ntmps19
  go_wp2_with (go_at_call 34; refine HH.out.mono ?_; rintro e w' ⟨rfl, rfl⟩)
  go_ret
  exact ⟨rfl, rfl⟩
end Go.Proofs.YtbkjmmeipbbaaaaDoor
