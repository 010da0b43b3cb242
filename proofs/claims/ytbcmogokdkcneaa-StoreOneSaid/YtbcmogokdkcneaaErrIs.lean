/- errors.Is over two errors that are kinds of package api, bare (not wrapped): true just if they are the same kind. Go's own text of errors.Is is walked. -/
import Derived.Test.YtbcmogokdkcneaaRows
import Derived.WalkKit
import Derived.ProofKit
import Derived.OpenShut
import Derived.LaidEql
import Derived.Stop.Asserts
import Derived.RowKitTokens
import Derived.Handy
import Derived.Lib.Hide
namespace Go.Proofs.Ytbcmogokdkcneaa
open Go.RowKit Go.Extern.Stop Go.Stop Go.Extern

section
variable {P : Program} (w : World)
theorem run_equalIn_iface_int (d : Nat) {ti tn : TypeId} {ms : Array (String × TypeId)} {i : TypeInfo} {k : IntKind} (a b : Int)
    (hi : P.underlying ti = some (.interface ms)) (hn : P.underlying tn = some (.int k)) (hinfo : P.info? tn = some i) (hcomp : i.comparable = true) :
    (Op.equalIn (d + 2) ti (.iface tn (.int k a)) (.iface tn (.int k b))).run P w = .ok (a == b) w := by
  simp [Op.equalIn, run_underlying hi, run_underlying hn, typeInfo, hinfo, hcomp]
/-- two interface values of one integer type are equal as their numbers are -/
theorem run_eql_iface_int {ti tn : TypeId} {ms : Array (String × TypeId)} {i : TypeInfo} {k : IntKind} (a b : Int)
    (hi : P.underlying ti = some (.interface ms)) (hn : P.underlying tn = some (.int k)) (hinfo : P.info? tn = some i) (hcomp : i.comparable = true) :
    (binOp .eql ti (.iface tn (.int k a)) (.iface tn (.int k b))).run P w = .ok (.bool (a == b)) w := by
  simp only [binOp]
  simp [Op.equal, Op.maxDepth, run_equalIn_iface_int w 9998 a b hi hn hinfo hcomp]
end

theorem Try.isTypeOf (v : Value) (w : World) : (callFunc 22 #[.iface 54 v]).run Try.prog w = .ok (.value (.iface 65 (.agg #[.pointer (some ⟨0, 54, none⟩)]))) w := by kernel_rfl
theorem Try.isComparable (w : World) : (callFunc 43 #[.agg #[.pointer (some ⟨0, 54, none⟩)]]).run Try.prog w = .ok (.value (.bool true)) w := by kernel_rfl
theorem Try.isComp : (Try.prog.info? 54).map (·.comparable) = some true := by kernel_rfl

theorem is_loop_same (a : Int) (w : World) :
    Calls Try.prog 23 #[.iface 54 (.int .i64 a), .iface 54 (.int .i64 a), .bool true] w fun e w' => e = .returned (.bool true) ∧ w = w' := by
  obtain ⟨i, hi, hcmp⟩ := Option.map_eq_some_iff.1 Try.isComp
  have heq := fun w => run_eql_iface_int (P := Try.prog) w a a Try.underlying26 Try.underlying54 hi hcmp
  simp only [beq_self_eq_true] at heq
  clear hi hcmp
  go_enter Try.func23, Try.ntmps23
  go_wp2
  refine wp_loop_rounds 1 ?_
  rw [rounds_succ]
  go_wp2
  go_ret
  exact ⟨rfl, rfl⟩

/-- errors.Is(k, k), k a kind -/
theorem is_same (a : Int) (w : World) :
    Calls Try.prog 19 #[.iface 54 (.int .i64 a), .iface 54 (.int .i64 a)] w fun e w' => e = .returned (.bool true) ∧ w = w' := by
  have tT := Try.isTypeOf
  have cT := Try.isComparable
  go_enter Try.func19, Try.ntmps19
  go_wp2_with (go_at_call 23; refine (is_loop_same _ _).mono ?_; rintro e w' ⟨rfl, rfl⟩)
  go_ret
  exact ⟨rfl, rfl⟩

theorem Try.noIs (v : Value) (xT : TypeId) (w : World) : (Instr.typeAssert (.iface 54 v) xT 67 true).run Try.prog w = .ok (.tuple #[.nilIface, .bool false]) w := run_typeAssert_lacksB Try.underlying67 (by kernel_rfl) (by kernel_rfl) v xT w
theorem Try.noUnwrap (v : Value) (xT : TypeId) (w : World) : (Instr.typeAssert (.iface 54 v) xT 70 true).run Try.prog w = .ok (.tuple #[.nilIface, .bool false]) w := run_typeAssert_lacksB Try.underlying70 (by kernel_rfl) (by kernel_rfl) v xT w
theorem Try.noUnwraps (v : Value) (xT : TypeId) (w : World) : (Instr.typeAssert (.iface 54 v) xT 72 true).run Try.prog w = .ok (.tuple #[.nilIface, .bool false]) w := run_typeAssert_lacksB Try.underlying72 (by kernel_rfl) (by kernel_rfl) v xT w

theorem is_loop_other (a b : Int) (hab : (a == b) = false) (w : World) :
    Calls Try.prog 23 #[.iface 54 (.int .i64 a), .iface 54 (.int .i64 b), .bool true] w fun e w' => e = .returned (.bool false) ∧ w = w' := by
  obtain ⟨i, hi, hcmp⟩ := Option.map_eq_some_iff.1 Try.isComp
  have heq := fun w => run_eql_iface_int (P := Try.prog) w a b Try.underlying26 Try.underlying54 hi hcmp
  simp only [hab] at heq
  clear hi hcmp hab
  have n1 := Try.noIs
  have n2 := Try.noUnwrap
  have n3 := Try.noUnwraps
  go_enter Try.func23, Try.ntmps23
  go_wp2
  refine wp_loop_rounds 1 ?_
  rw [rounds_succ]
  go_wp2
  go_ret
  exact ⟨rfl, rfl⟩

/-- errors.Is(k, j), of two kinds -/
theorem is_other (a b : Int) (hab : (a == b) = false) (w : World) :
    Calls Try.prog 19 #[.iface 54 (.int .i64 a), .iface 54 (.int .i64 b)] w fun e w' => e = .returned (.bool false) ∧ w = w' := by
  have tT := Try.isTypeOf
  have cT := Try.isComparable
  have HH := Lib.hid (is_loop_other a b hab w)
  clear hab
  go_enter Try.func19, Try.ntmps19
  go_wp2_with (go_at_call 23; refine HH.out.mono ?_; rintro e w' ⟨rfl, rfl⟩)
  go_ret
  exact ⟨rfl, rfl⟩
end Go.Proofs.Ytbcmogokdkcneaa
