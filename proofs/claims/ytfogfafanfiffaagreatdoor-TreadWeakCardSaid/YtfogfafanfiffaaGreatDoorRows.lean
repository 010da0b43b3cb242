/-
  NARROWER THAN 'FOR EVERY INPUT', by the rows' own cells (each row's printed sentence says how): TreadKeeps: laid · TreadFlip: laid · TreadWeak: laid.
  DERIVED. THE GIVEN ROWS OF THIS SEAT. 3 by the template 'for every input the law returns true; each argument reads behind the call as it read before'; 0 by the template 'total and deterministic' (their statements: YtfogfafanfiffaaGreatDoorTotals.lean).
  GIVEN WITH THE SEED: the statements are not yours to turn. If you find one false, say at which input.
  Laid BY PROGRAM, IN A SANDBOX (cutbox-rows.mjs): the forced cells as the released guide's own fill.sh prints them over the translation 5b0103c9911f9f92… (all of the seat's roots in one cut). By AI agents, Wed Nov 11 2026. No macro, syntax, notation, axiom, sorry.
-/
import Derived.Test.YtfogfafanfiffaaGreatDoorChecked
import GoSem.Claim
import GoSem.ClaimJoined
import GoSem.ClaimMapViews
import Derived.JoinedTies
import Derived.KernelRfl
namespace Go.Proofs.YtfogfafanfiffaaGreatDoor
/- THE CELL 'sum', in the pinned program and in every row, IS THE sha256 OF THE DUMP (.gsa) THAT YtfogfafanfiffaaGreatDoorProg.lean LOADS. Nothing in Lean hashes anything: it is a label: what it is worth is what the hold of that sum in a sandbox is worth. -/
noncomputable def Tryz.pinned : Pinned := { name := "ytfogfafanfiffaagreatdoor", sum := "5b0103c9911f9f929b67661f79d9acaf2e254535d400b55c962f0642d31443b4", checked := Tryz.checked }
namespace Rows
def none {H : Type} : Left H := { results := [], args := [] }

/- WHAT THE LISTED PACKAGE-LEVEL VARIABLES READ AS WHEN THE CALL BEGINS. Each datum BY PROGRAM (the guide's laid-datum.mjs) off the statement by which the dump's own 'gosem.cut.vars' lays the variable. In a bare row this is a premise. The card (YtfogfafanfiffaaGreatDoorCards.lean) ties it to the program's text. -/
def laid_spindle_tread_sizes {H : Type} : DataW H := .agg [.lit (.int .i64 3), .lit (.int .i64 7), .lit (.int .i64 31), .lit (.int .i64 127)]

/-- 'spindlelaw05.TreadKeeps': WHATEVER THE INPUT: true; the input reads as it did. -/
def treadKeepsSpec : ChangeSpec := { name := "treadKeeps", fn := fun _ => fun
  | [d1, d2] => { results := [.lit (.bool true)], args := [d1, d2] }
  | _ => none }
def treadKeepsRow : OpenClaim := { program := "ytfogfafanfiffaagreatdoor", sum := "5b0103c9911f9f929b67661f79d9acaf2e254535d400b55c962f0642d31443b4", func := "spindle/spindlelaw05.TreadKeeps", spec := "treadKeeps", inPlace := ["internal/reflectlite.TypeOf"], unfollowed := true, recurses := true, named := ["spindle/tread.sizes"], apart := false, laid := [("spindle/tread.sizes", laid_spindle_tread_sizes)] }
def TreadKeepsSaid : Prop := treadKeepsRow.holds Tryz.pinned (OpenSpec.ofChange treadKeepsSpec)

/-- ITS FALSE NEIGHBOUR: 'it returns false'. Refute it at one input. -/
def treadKeepsWrong : ChangeSpec := { name := "treadKeeps", fn := fun _ => fun
  | [d1, d2] => { results := [.lit (.bool false)], args := [d1, d2] }
  | _ => none }
def TreadKeepsWrongFalsely : Prop := treadKeepsRow.holds Tryz.pinned (OpenSpec.ofChange treadKeepsWrong)

/-- 'spindlelaw05.TreadFlip': WHATEVER THE INPUT: true; the input reads as it did. -/
def treadFlipSpec : ChangeSpec := { name := "treadFlip", fn := fun _ => fun
  | [d1, d2, d3] => { results := [.lit (.bool true)], args := [d1, d2, d3] }
  | _ => none }
def treadFlipRow : OpenClaim := { program := "ytfogfafanfiffaagreatdoor", sum := "5b0103c9911f9f929b67661f79d9acaf2e254535d400b55c962f0642d31443b4", func := "spindle/spindlelaw05.TreadFlip", spec := "treadFlip", inPlace := ["internal/reflectlite.TypeOf"], unfollowed := true, recurses := true, named := ["spindle/tread.sizes"], apart := false, laid := [("spindle/tread.sizes", laid_spindle_tread_sizes)] }
def TreadFlipSaid : Prop := treadFlipRow.holds Tryz.pinned (OpenSpec.ofChange treadFlipSpec)

/-- ITS FALSE NEIGHBOUR: 'it returns false'. Refute it at one input. -/
def treadFlipWrong : ChangeSpec := { name := "treadFlip", fn := fun _ => fun
  | [d1, d2, d3] => { results := [.lit (.bool false)], args := [d1, d2, d3] }
  | _ => none }
def TreadFlipWrongFalsely : Prop := treadFlipRow.holds Tryz.pinned (OpenSpec.ofChange treadFlipWrong)

/-- 'spindlelaw05.TreadWeak': WHATEVER THE INPUT: true; the input reads as it did. -/
def treadWeakSpec : ChangeSpec := { name := "treadWeak", fn := fun _ => fun
  | [d1, d2] => { results := [.lit (.bool true)], args := [d1, d2] }
  | _ => none }
def treadWeakRow : OpenClaim := { program := "ytfogfafanfiffaagreatdoor", sum := "5b0103c9911f9f929b67661f79d9acaf2e254535d400b55c962f0642d31443b4", func := "spindle/spindlelaw05.TreadWeak", spec := "treadWeak", inPlace := ["internal/reflectlite.TypeOf"], unfollowed := true, recurses := true, named := ["spindle/tread.sizes"], apart := false, laid := [("spindle/tread.sizes", laid_spindle_tread_sizes)] }
def TreadWeakSaid : Prop := treadWeakRow.holds Tryz.pinned (OpenSpec.ofChange treadWeakSpec)

/-- ITS FALSE NEIGHBOUR: 'it returns false'. Refute it at one input. -/
def treadWeakWrong : ChangeSpec := { name := "treadWeak", fn := fun _ => fun
  | [d1, d2] => { results := [.lit (.bool false)], args := [d1, d2] }
  | _ => none }
def TreadWeakWrongFalsely : Prop := treadWeakRow.holds Tryz.pinned (OpenSpec.ofChange treadWeakWrong)

/- THE SECOND FORM. 'bulk': how many values and letters a reading holds, each counted each time it is reached (what is shared counts as often as it is met; a slice's spare places count too). A statement '..UptoSaid' is the law's where the arguments, and the package variables that the reading takes, are together of bulk at most 1048576: NARROWER than '..Said'. Prove '..Said' where nothing that the law and all that it calls make is longer than what came in: it says more and counts as full. Else prove '..UptoSaid'. A law counts once. -/
mutual
def uptoBulk {H : Type} : DataW H → Nat
  | .lit (.string bytes) => bytes.length + 1
  | .lit _ => 1
  | .nil => 1
  | .ptr d => uptoBulk d + 1
  | .slice elems spare => uptoBulkAll elems + uptoBulkAll spare + 1
  | .agg parts => uptoBulkAll parts + 1
  | .iface _ d => uptoBulk d + 1
  | .map entries => uptoBulkEntries entries + 1
  | .held _ => 1
def uptoBulkAll {H : Type} : List (DataW H) → Nat
  | [] => 0
  | d :: r => uptoBulk d + uptoBulkAll r
def uptoBulkEntries {H : Type} : List (Lit × DataW H) → Nat
  | [] => 0
  | x :: r => uptoBulkEntry x + uptoBulkEntries r
def uptoBulkEntry {H : Type} : Lit × DataW H → Nat
  | (.string bytes, d) => bytes.length + uptoBulk d + 1
  | (_, d) => uptoBulk d + 1
 end
def uptoSmall : (H : Type) → List (DataW H) → Bool := fun _ ds => decide (uptoBulkAll ds ≤ 1048576)
def OpenSpec.upto (s : _root_.Go.ChangeSpec) : _root_.Go.OpenSpec := { _root_.Go.OpenSpec.ofChange s with cond := some uptoSmall }

/-- 'spindlelaw05.TreadKeeps', WHERE WHAT IT READS IS OF BULK AT MOST 1048576: true; the input reads as it did. -/
def treadKeepsUptoRow : OpenClaim := { program := "ytfogfafanfiffaagreatdoor", sum := "5b0103c9911f9f929b67661f79d9acaf2e254535d400b55c962f0642d31443b4", func := "spindle/spindlelaw05.TreadKeeps", spec := "treadKeeps", inPlace := ["internal/reflectlite.TypeOf"], unfollowed := true, recurses := true, named := ["spindle/tread.sizes"], apart := false, laid := [("spindle/tread.sizes", laid_spindle_tread_sizes)], narrowed := true }
def TreadKeepsUptoSaid : Prop := treadKeepsUptoRow.holds Tryz.pinned (OpenSpec.upto treadKeepsSpec)

/-- 'spindlelaw05.TreadFlip', WHERE WHAT IT READS IS OF BULK AT MOST 1048576: true; the input reads as it did. -/
def treadFlipUptoRow : OpenClaim := { program := "ytfogfafanfiffaagreatdoor", sum := "5b0103c9911f9f929b67661f79d9acaf2e254535d400b55c962f0642d31443b4", func := "spindle/spindlelaw05.TreadFlip", spec := "treadFlip", inPlace := ["internal/reflectlite.TypeOf"], unfollowed := true, recurses := true, named := ["spindle/tread.sizes"], apart := false, laid := [("spindle/tread.sizes", laid_spindle_tread_sizes)], narrowed := true }
def TreadFlipUptoSaid : Prop := treadFlipUptoRow.holds Tryz.pinned (OpenSpec.upto treadFlipSpec)

/-- 'spindlelaw05.TreadWeak', WHERE WHAT IT READS IS OF BULK AT MOST 1048576: true; the input reads as it did. -/
def treadWeakUptoRow : OpenClaim := { program := "ytfogfafanfiffaagreatdoor", sum := "5b0103c9911f9f929b67661f79d9acaf2e254535d400b55c962f0642d31443b4", func := "spindle/spindlelaw05.TreadWeak", spec := "treadWeak", inPlace := ["internal/reflectlite.TypeOf"], unfollowed := true, recurses := true, named := ["spindle/tread.sizes"], apart := false, laid := [("spindle/tread.sizes", laid_spindle_tread_sizes)], narrowed := true }
def TreadWeakUptoSaid : Prop := treadWeakUptoRow.holds Tryz.pinned (OpenSpec.upto treadWeakSpec)

end Rows
end Go.Proofs.YtfogfafanfiffaaGreatDoor
