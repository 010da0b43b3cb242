/- Package code: an operation's word, the text of what is quoted, operands. -/
import Derived.Test.YthfelkcomhflnaaDoorQ30
import Derived.Test.YthfelkcomhflnaaDoorQ12
import Derived.Test.YthfelkcomhflnaaDoorQ37
import Derived.Test.YthfelkcomhflnaaDoorQ2
namespace Go.Proofs.YthfelkcomhflnaaDoor
open Go.ChangeShapes Go.WideShapes Go.ChangeAt Go.RowKit Go.Deep
open CD (Ins)

/-- a string of these bytes -/
def CStr (l : List UInt8) (w : World) (e : Ending) (w' : World) : Prop := (∃ T : ByteArray, e = .returned (.string T) ∧ T.data.toList = l) ∧ Went w w'
theorem cbytes (l : List UInt8) : ∃ T : ByteArray, (⟨l.toArray⟩ : ByteArray) = T ∧ T.data.toList = l ∧ T.size = l.length := ⟨_, rfl, rfl, by rw [← size_len]⟩
theorem csize {T : ByteArray} {l : List UInt8} (h : T.data.toList = l) : T.size = l.length := by rw [← h, size_len]
set_option maxRecDepth 100000 in
set_option maxHeartbeats 2000000 in
theorem word16_any (op : Int) (h : 1 ≤ op ∧ op ≤ 14) (w : World) : Calls Tryd.prog 34 #[.int .i64 op] w (CStr (CD.nm op) w) := by
  rcases (show op = 1 ∨ op = 2 ∨ op = 3 ∨ op = 4 ∨ op = 5 ∨ op = 6 ∨ op = 7 ∨ op = 8 ∨ op = 9 ∨ op = 10 ∨ op = 11 ∨ op = 12 ∨ op = 13 ∨ op = 14 by omega) with rfl | rfl | rfl | rfl | rfl | rfl | rfl | rfl | rfl | rfl | rfl | rfl | rfl | rfl
  · have hix : ∀ w : World, (Instr.index 85 (.agg #[.string ⟨#[]⟩, .string ⟨#[99, 111, 110, 115, 116]⟩, .string ⟨#[108, 111, 99, 97, 108]⟩, .string ⟨#[103, 108, 111, 98, 97, 108]⟩, .string ⟨#[115, 101, 116]⟩, .string ⟨#[97, 115, 115, 105, 103, 110]⟩, .string ⟨#[100, 101, 102, 105, 110, 101]⟩, .string ⟨#[117, 110, 108, 101, 115, 115]⟩, .string ⟨#[106, 117, 109, 112]⟩, .string ⟨#[99, 108, 111, 115, 117, 114, 101]⟩, .string ⟨#[102, 114, 97, 109, 101]⟩, .string ⟨#[112, 117, 115, 104]⟩, .string ⟨#[99, 97, 108, 108]⟩, .string ⟨#[116, 97, 105, 108]⟩, .string ⟨#[114, 101, 116, 117, 114, 110]⟩]) (.int .i64 1)).run Tryd.prog w = .ok (.string ⟨#[99, 111, 110, 115, 116]⟩) w := fun _ => by kernel_rfl
    go_enter Tryd.func34, Tryd.ntmps34
    go_wp2_with fail
    go_ret
    exact ⟨⟨_, rfl, rfl⟩, Below.refl _ _⟩
  · have hix : ∀ w : World, (Instr.index 85 (.agg #[.string ⟨#[]⟩, .string ⟨#[99, 111, 110, 115, 116]⟩, .string ⟨#[108, 111, 99, 97, 108]⟩, .string ⟨#[103, 108, 111, 98, 97, 108]⟩, .string ⟨#[115, 101, 116]⟩, .string ⟨#[97, 115, 115, 105, 103, 110]⟩, .string ⟨#[100, 101, 102, 105, 110, 101]⟩, .string ⟨#[117, 110, 108, 101, 115, 115]⟩, .string ⟨#[106, 117, 109, 112]⟩, .string ⟨#[99, 108, 111, 115, 117, 114, 101]⟩, .string ⟨#[102, 114, 97, 109, 101]⟩, .string ⟨#[112, 117, 115, 104]⟩, .string ⟨#[99, 97, 108, 108]⟩, .string ⟨#[116, 97, 105, 108]⟩, .string ⟨#[114, 101, 116, 117, 114, 110]⟩]) (.int .i64 2)).run Tryd.prog w = .ok (.string ⟨#[108, 111, 99, 97, 108]⟩) w := fun _ => by kernel_rfl
    go_enter Tryd.func34, Tryd.ntmps34
    go_wp2_with fail
    go_ret
    exact ⟨⟨_, rfl, rfl⟩, Below.refl _ _⟩
  · have hix : ∀ w : World, (Instr.index 85 (.agg #[.string ⟨#[]⟩, .string ⟨#[99, 111, 110, 115, 116]⟩, .string ⟨#[108, 111, 99, 97, 108]⟩, .string ⟨#[103, 108, 111, 98, 97, 108]⟩, .string ⟨#[115, 101, 116]⟩, .string ⟨#[97, 115, 115, 105, 103, 110]⟩, .string ⟨#[100, 101, 102, 105, 110, 101]⟩, .string ⟨#[117, 110, 108, 101, 115, 115]⟩, .string ⟨#[106, 117, 109, 112]⟩, .string ⟨#[99, 108, 111, 115, 117, 114, 101]⟩, .string ⟨#[102, 114, 97, 109, 101]⟩, .string ⟨#[112, 117, 115, 104]⟩, .string ⟨#[99, 97, 108, 108]⟩, .string ⟨#[116, 97, 105, 108]⟩, .string ⟨#[114, 101, 116, 117, 114, 110]⟩]) (.int .i64 3)).run Tryd.prog w = .ok (.string ⟨#[103, 108, 111, 98, 97, 108]⟩) w := fun _ => by kernel_rfl
    go_enter Tryd.func34, Tryd.ntmps34
    go_wp2_with fail
    go_ret
    exact ⟨⟨_, rfl, rfl⟩, Below.refl _ _⟩
  · have hix : ∀ w : World, (Instr.index 85 (.agg #[.string ⟨#[]⟩, .string ⟨#[99, 111, 110, 115, 116]⟩, .string ⟨#[108, 111, 99, 97, 108]⟩, .string ⟨#[103, 108, 111, 98, 97, 108]⟩, .string ⟨#[115, 101, 116]⟩, .string ⟨#[97, 115, 115, 105, 103, 110]⟩, .string ⟨#[100, 101, 102, 105, 110, 101]⟩, .string ⟨#[117, 110, 108, 101, 115, 115]⟩, .string ⟨#[106, 117, 109, 112]⟩, .string ⟨#[99, 108, 111, 115, 117, 114, 101]⟩, .string ⟨#[102, 114, 97, 109, 101]⟩, .string ⟨#[112, 117, 115, 104]⟩, .string ⟨#[99, 97, 108, 108]⟩, .string ⟨#[116, 97, 105, 108]⟩, .string ⟨#[114, 101, 116, 117, 114, 110]⟩]) (.int .i64 4)).run Tryd.prog w = .ok (.string ⟨#[115, 101, 116]⟩) w := fun _ => by kernel_rfl
    go_enter Tryd.func34, Tryd.ntmps34
    go_wp2_with fail
    go_ret
    exact ⟨⟨_, rfl, rfl⟩, Below.refl _ _⟩
  · have hix : ∀ w : World, (Instr.index 85 (.agg #[.string ⟨#[]⟩, .string ⟨#[99, 111, 110, 115, 116]⟩, .string ⟨#[108, 111, 99, 97, 108]⟩, .string ⟨#[103, 108, 111, 98, 97, 108]⟩, .string ⟨#[115, 101, 116]⟩, .string ⟨#[97, 115, 115, 105, 103, 110]⟩, .string ⟨#[100, 101, 102, 105, 110, 101]⟩, .string ⟨#[117, 110, 108, 101, 115, 115]⟩, .string ⟨#[106, 117, 109, 112]⟩, .string ⟨#[99, 108, 111, 115, 117, 114, 101]⟩, .string ⟨#[102, 114, 97, 109, 101]⟩, .string ⟨#[112, 117, 115, 104]⟩, .string ⟨#[99, 97, 108, 108]⟩, .string ⟨#[116, 97, 105, 108]⟩, .string ⟨#[114, 101, 116, 117, 114, 110]⟩]) (.int .i64 5)).run Tryd.prog w = .ok (.string ⟨#[97, 115, 115, 105, 103, 110]⟩) w := fun _ => by kernel_rfl
    go_enter Tryd.func34, Tryd.ntmps34
    go_wp2_with fail
    go_ret
    exact ⟨⟨_, rfl, rfl⟩, Below.refl _ _⟩
  · have hix : ∀ w : World, (Instr.index 85 (.agg #[.string ⟨#[]⟩, .string ⟨#[99, 111, 110, 115, 116]⟩, .string ⟨#[108, 111, 99, 97, 108]⟩, .string ⟨#[103, 108, 111, 98, 97, 108]⟩, .string ⟨#[115, 101, 116]⟩, .string ⟨#[97, 115, 115, 105, 103, 110]⟩, .string ⟨#[100, 101, 102, 105, 110, 101]⟩, .string ⟨#[117, 110, 108, 101, 115, 115]⟩, .string ⟨#[106, 117, 109, 112]⟩, .string ⟨#[99, 108, 111, 115, 117, 114, 101]⟩, .string ⟨#[102, 114, 97, 109, 101]⟩, .string ⟨#[112, 117, 115, 104]⟩, .string ⟨#[99, 97, 108, 108]⟩, .string ⟨#[116, 97, 105, 108]⟩, .string ⟨#[114, 101, 116, 117, 114, 110]⟩]) (.int .i64 6)).run Tryd.prog w = .ok (.string ⟨#[100, 101, 102, 105, 110, 101]⟩) w := fun _ => by kernel_rfl
    go_enter Tryd.func34, Tryd.ntmps34
    go_wp2_with fail
    go_ret
    exact ⟨⟨_, rfl, rfl⟩, Below.refl _ _⟩
  · have hix : ∀ w : World, (Instr.index 85 (.agg #[.string ⟨#[]⟩, .string ⟨#[99, 111, 110, 115, 116]⟩, .string ⟨#[108, 111, 99, 97, 108]⟩, .string ⟨#[103, 108, 111, 98, 97, 108]⟩, .string ⟨#[115, 101, 116]⟩, .string ⟨#[97, 115, 115, 105, 103, 110]⟩, .string ⟨#[100, 101, 102, 105, 110, 101]⟩, .string ⟨#[117, 110, 108, 101, 115, 115]⟩, .string ⟨#[106, 117, 109, 112]⟩, .string ⟨#[99, 108, 111, 115, 117, 114, 101]⟩, .string ⟨#[102, 114, 97, 109, 101]⟩, .string ⟨#[112, 117, 115, 104]⟩, .string ⟨#[99, 97, 108, 108]⟩, .string ⟨#[116, 97, 105, 108]⟩, .string ⟨#[114, 101, 116, 117, 114, 110]⟩]) (.int .i64 7)).run Tryd.prog w = .ok (.string ⟨#[117, 110, 108, 101, 115, 115]⟩) w := fun _ => by kernel_rfl
    go_enter Tryd.func34, Tryd.ntmps34
    go_wp2_with fail
    go_ret
    exact ⟨⟨_, rfl, rfl⟩, Below.refl _ _⟩
  · have hix : ∀ w : World, (Instr.index 85 (.agg #[.string ⟨#[]⟩, .string ⟨#[99, 111, 110, 115, 116]⟩, .string ⟨#[108, 111, 99, 97, 108]⟩, .string ⟨#[103, 108, 111, 98, 97, 108]⟩, .string ⟨#[115, 101, 116]⟩, .string ⟨#[97, 115, 115, 105, 103, 110]⟩, .string ⟨#[100, 101, 102, 105, 110, 101]⟩, .string ⟨#[117, 110, 108, 101, 115, 115]⟩, .string ⟨#[106, 117, 109, 112]⟩, .string ⟨#[99, 108, 111, 115, 117, 114, 101]⟩, .string ⟨#[102, 114, 97, 109, 101]⟩, .string ⟨#[112, 117, 115, 104]⟩, .string ⟨#[99, 97, 108, 108]⟩, .string ⟨#[116, 97, 105, 108]⟩, .string ⟨#[114, 101, 116, 117, 114, 110]⟩]) (.int .i64 8)).run Tryd.prog w = .ok (.string ⟨#[106, 117, 109, 112]⟩) w := fun _ => by kernel_rfl
    go_enter Tryd.func34, Tryd.ntmps34
    go_wp2_with fail
    go_ret
    exact ⟨⟨_, rfl, rfl⟩, Below.refl _ _⟩
  · have hix : ∀ w : World, (Instr.index 85 (.agg #[.string ⟨#[]⟩, .string ⟨#[99, 111, 110, 115, 116]⟩, .string ⟨#[108, 111, 99, 97, 108]⟩, .string ⟨#[103, 108, 111, 98, 97, 108]⟩, .string ⟨#[115, 101, 116]⟩, .string ⟨#[97, 115, 115, 105, 103, 110]⟩, .string ⟨#[100, 101, 102, 105, 110, 101]⟩, .string ⟨#[117, 110, 108, 101, 115, 115]⟩, .string ⟨#[106, 117, 109, 112]⟩, .string ⟨#[99, 108, 111, 115, 117, 114, 101]⟩, .string ⟨#[102, 114, 97, 109, 101]⟩, .string ⟨#[112, 117, 115, 104]⟩, .string ⟨#[99, 97, 108, 108]⟩, .string ⟨#[116, 97, 105, 108]⟩, .string ⟨#[114, 101, 116, 117, 114, 110]⟩]) (.int .i64 9)).run Tryd.prog w = .ok (.string ⟨#[99, 108, 111, 115, 117, 114, 101]⟩) w := fun _ => by kernel_rfl
    go_enter Tryd.func34, Tryd.ntmps34
    go_wp2_with fail
    go_ret
    exact ⟨⟨_, rfl, rfl⟩, Below.refl _ _⟩
  · have hix : ∀ w : World, (Instr.index 85 (.agg #[.string ⟨#[]⟩, .string ⟨#[99, 111, 110, 115, 116]⟩, .string ⟨#[108, 111, 99, 97, 108]⟩, .string ⟨#[103, 108, 111, 98, 97, 108]⟩, .string ⟨#[115, 101, 116]⟩, .string ⟨#[97, 115, 115, 105, 103, 110]⟩, .string ⟨#[100, 101, 102, 105, 110, 101]⟩, .string ⟨#[117, 110, 108, 101, 115, 115]⟩, .string ⟨#[106, 117, 109, 112]⟩, .string ⟨#[99, 108, 111, 115, 117, 114, 101]⟩, .string ⟨#[102, 114, 97, 109, 101]⟩, .string ⟨#[112, 117, 115, 104]⟩, .string ⟨#[99, 97, 108, 108]⟩, .string ⟨#[116, 97, 105, 108]⟩, .string ⟨#[114, 101, 116, 117, 114, 110]⟩]) (.int .i64 10)).run Tryd.prog w = .ok (.string ⟨#[102, 114, 97, 109, 101]⟩) w := fun _ => by kernel_rfl
    go_enter Tryd.func34, Tryd.ntmps34
    go_wp2_with fail
    go_ret
    exact ⟨⟨_, rfl, rfl⟩, Below.refl _ _⟩
  · have hix : ∀ w : World, (Instr.index 85 (.agg #[.string ⟨#[]⟩, .string ⟨#[99, 111, 110, 115, 116]⟩, .string ⟨#[108, 111, 99, 97, 108]⟩, .string ⟨#[103, 108, 111, 98, 97, 108]⟩, .string ⟨#[115, 101, 116]⟩, .string ⟨#[97, 115, 115, 105, 103, 110]⟩, .string ⟨#[100, 101, 102, 105, 110, 101]⟩, .string ⟨#[117, 110, 108, 101, 115, 115]⟩, .string ⟨#[106, 117, 109, 112]⟩, .string ⟨#[99, 108, 111, 115, 117, 114, 101]⟩, .string ⟨#[102, 114, 97, 109, 101]⟩, .string ⟨#[112, 117, 115, 104]⟩, .string ⟨#[99, 97, 108, 108]⟩, .string ⟨#[116, 97, 105, 108]⟩, .string ⟨#[114, 101, 116, 117, 114, 110]⟩]) (.int .i64 11)).run Tryd.prog w = .ok (.string ⟨#[112, 117, 115, 104]⟩) w := fun _ => by kernel_rfl
    go_enter Tryd.func34, Tryd.ntmps34
    go_wp2_with fail
    go_ret
    exact ⟨⟨_, rfl, rfl⟩, Below.refl _ _⟩
  · have hix : ∀ w : World, (Instr.index 85 (.agg #[.string ⟨#[]⟩, .string ⟨#[99, 111, 110, 115, 116]⟩, .string ⟨#[108, 111, 99, 97, 108]⟩, .string ⟨#[103, 108, 111, 98, 97, 108]⟩, .string ⟨#[115, 101, 116]⟩, .string ⟨#[97, 115, 115, 105, 103, 110]⟩, .string ⟨#[100, 101, 102, 105, 110, 101]⟩, .string ⟨#[117, 110, 108, 101, 115, 115]⟩, .string ⟨#[106, 117, 109, 112]⟩, .string ⟨#[99, 108, 111, 115, 117, 114, 101]⟩, .string ⟨#[102, 114, 97, 109, 101]⟩, .string ⟨#[112, 117, 115, 104]⟩, .string ⟨#[99, 97, 108, 108]⟩, .string ⟨#[116, 97, 105, 108]⟩, .string ⟨#[114, 101, 116, 117, 114, 110]⟩]) (.int .i64 12)).run Tryd.prog w = .ok (.string ⟨#[99, 97, 108, 108]⟩) w := fun _ => by kernel_rfl
    go_enter Tryd.func34, Tryd.ntmps34
    go_wp2_with fail
    go_ret
    exact ⟨⟨_, rfl, rfl⟩, Below.refl _ _⟩
  · have hix : ∀ w : World, (Instr.index 85 (.agg #[.string ⟨#[]⟩, .string ⟨#[99, 111, 110, 115, 116]⟩, .string ⟨#[108, 111, 99, 97, 108]⟩, .string ⟨#[103, 108, 111, 98, 97, 108]⟩, .string ⟨#[115, 101, 116]⟩, .string ⟨#[97, 115, 115, 105, 103, 110]⟩, .string ⟨#[100, 101, 102, 105, 110, 101]⟩, .string ⟨#[117, 110, 108, 101, 115, 115]⟩, .string ⟨#[106, 117, 109, 112]⟩, .string ⟨#[99, 108, 111, 115, 117, 114, 101]⟩, .string ⟨#[102, 114, 97, 109, 101]⟩, .string ⟨#[112, 117, 115, 104]⟩, .string ⟨#[99, 97, 108, 108]⟩, .string ⟨#[116, 97, 105, 108]⟩, .string ⟨#[114, 101, 116, 117, 114, 110]⟩]) (.int .i64 13)).run Tryd.prog w = .ok (.string ⟨#[116, 97, 105, 108]⟩) w := fun _ => by kernel_rfl
    go_enter Tryd.func34, Tryd.ntmps34
    go_wp2_with fail
    go_ret
    exact ⟨⟨_, rfl, rfl⟩, Below.refl _ _⟩
  · have hix : ∀ w : World, (Instr.index 85 (.agg #[.string ⟨#[]⟩, .string ⟨#[99, 111, 110, 115, 116]⟩, .string ⟨#[108, 111, 99, 97, 108]⟩, .string ⟨#[103, 108, 111, 98, 97, 108]⟩, .string ⟨#[115, 101, 116]⟩, .string ⟨#[97, 115, 115, 105, 103, 110]⟩, .string ⟨#[100, 101, 102, 105, 110, 101]⟩, .string ⟨#[117, 110, 108, 101, 115, 115]⟩, .string ⟨#[106, 117, 109, 112]⟩, .string ⟨#[99, 108, 111, 115, 117, 114, 101]⟩, .string ⟨#[102, 114, 97, 109, 101]⟩, .string ⟨#[112, 117, 115, 104]⟩, .string ⟨#[99, 97, 108, 108]⟩, .string ⟨#[116, 97, 105, 108]⟩, .string ⟨#[114, 101, 116, 117, 114, 110]⟩]) (.int .i64 14)).run Tryd.prog w = .ok (.string ⟨#[114, 101, 116, 117, 114, 110]⟩) w := fun _ => by kernel_rfl
    go_enter Tryd.func34, Tryd.ntmps34
    go_wp2_with fail
    go_ret
    exact ⟨⟨_, rfl, rfl⟩, Below.refl _ _⟩
theorem nm_len (op : Int) : (CD.nm op).length ≤ 10 := by
  unfold CD.nm
  by_cases h1 : op = 1
  · rw [if_pos h1]; decide
  rw [if_neg h1]
  by_cases h2 : op = 2
  · rw [if_pos h2]; decide
  rw [if_neg h2]
  by_cases h3 : op = 3
  · rw [if_pos h3]; decide
  rw [if_neg h3]
  by_cases h4 : op = 4
  · rw [if_pos h4]; decide
  rw [if_neg h4]
  by_cases h5 : op = 5
  · rw [if_pos h5]; decide
  rw [if_neg h5]
  by_cases h6 : op = 6
  · rw [if_pos h6]; decide
  rw [if_neg h6]
  by_cases h7 : op = 7
  · rw [if_pos h7]; decide
  rw [if_neg h7]
  by_cases h8 : op = 8
  · rw [if_pos h8]; decide
  rw [if_neg h8]
  by_cases h9 : op = 9
  · rw [if_pos h9]; decide
  rw [if_neg h9]
  by_cases h10 : op = 10
  · rw [if_pos h10]; decide
  rw [if_neg h10]
  by_cases h11 : op = 11
  · rw [if_pos h11]; decide
  rw [if_neg h11]
  by_cases h12 : op = 12
  · rw [if_pos h12]; decide
  rw [if_neg h12]
  by_cases h13 : op = 13
  · rw [if_pos h13]; decide
  rw [if_neg h13]
  by_cases h14 : op = 14
  · rw [if_pos h14]; decide
  rw [if_neg h14]
  decide
theorem val_len {d : RM.Dm} (h : TM.quo d = true) : (CD.val d).length ≤ 5000000 := by
  unfold CD.val
  split
  · rename_i hk
    unfold TM.quo at h
    rw [if_neg hk] at h
    unfold SM.okd at h
    simp only [Bool.and_eq_true, decide_eq_true_eq] at h
    have := SM.txt_len false d h.2.1 h.2.2
    omega
  · split <;> simp
theorem value16_any (d : RM.Dm) (w : World) (u : Value) (h : In w u d.is) (hq : TM.quo d = true) (hT : Tab w) : Calls Tryd.prog 46 #[dtv d u] w (CStr (CD.val d) w) := by
  have hC := Lib.hid (fun (w' : World) (hb : Below w.heap.size w w') (ht : Tab w') => write_any d w' u (h.below hb) ht)
  obtain ⟨A, c, rfl⟩ := h.read
  have hb0 : Below w.heap.size w (w.alloc (.cells #[.int .i64 d.k, .int .i64 d.n, .string ⟨d.s.toArray⟩, .slice A d.is.len c] 42)) := (Below.refl _ _).alloc (Nat.le_refl _) _
  have hT0 : Tab (w.alloc (.cells #[.int .i64 d.k, .int .i64 d.n, .string ⟨d.s.toArray⟩, .slice A d.is.len c] 42)) := hT.on hb0
  unfold dtv at hC ⊢
  unfold CStr
  by_cases hk : d.k = 0
  · have e : CD.val d = if d.n = 0 then [35, 118, 111, 105, 100] else [35, 117, 110, 100, 101, 102] := by unfold CD.val; rw [if_neg (by simpa using hk)]
    rw [e]
    clear e hC
    by_cases hn : d.n = 0
    · go_enter Tryd.func46, Tryd.ntmps46
      go_wp2_with fail
      go_ret
      exact ⟨⟨_, rfl, by first | rfl | (rw [if_pos hn])⟩, (Below.refl _ w).alloc (Nat.le_refl _) _⟩
    · go_enter Tryd.func46, Tryd.ntmps46
      go_wp2_with fail
      go_ret
      exact ⟨⟨_, rfl, by first | rfl | (rw [if_neg hn])⟩, (Below.refl _ w).alloc (Nat.le_refl _) _⟩
  · have hok : SM.okd d = true := by unfold TM.quo at hq; rw [if_neg hk] at hq; exact hq
    rw [hok] at hC
    simp only [if_true] at hC
    have e : CD.val d = SM.txt false d := by unfold CD.val; rw [if_pos hk]
    rw [e]
    obtain ⟨X, hX, hXl, -⟩ := cbytes (SM.txt false d)
    rw [hX] at hC
    rw [← hXl]
    clear e hq hX hXl hok
    go_enter Tryd.func46, Tryd.ntmps46
    go_wp2_with (
      go_at_call 54
      refine (hC.out _ hb0 hT0).mono ?_
      rintro e w2 ⟨rfl, hb2⟩)
    go_ret
    exact ⟨⟨_, rfl, rfl⟩, hb0.trans (Below.mono hb2 hb0.size)⟩
theorem opd_len {n : Nat} {x : Ins} (h : CD.may n x = true) (hn : n ≤ 1000000) : (CD.opd x).length ≤ 5000100 := by
  have ia : ∀ {z : Int}, -100 ≤ z → z ≤ 1000000 → (Lib.itoa z).length ≤ 21 := fun h0 h1 => Lib.itoa_length_le _ (by omega) (by omega)
  unfold CD.may at h
  unfold CD.opd
  by_cases h1 : x.op = 1
  · simp only [h1, if_true, Bool.and_eq_true] at h ⊢
    have := val_len h.1.1.1
    simp; omega
  by_cases h3 : x.op = 3 ∨ x.op = 5 ∨ x.op = 6
  · rw [if_neg h1, if_neg (by omega), if_pos h3] at h
    rw [if_neg h1, if_pos h3]
    simp only [Bool.and_eq_true] at h
    have := SM.sym_short h.1.1.1
    simp; omega
  rw [if_neg h1, if_neg h3]
  by_cases h2 : x.op = 2 ∨ x.op = 4
  · rw [if_neg h1, if_pos h2] at h
    rw [if_pos (by omega)]
    simp only [Bool.and_eq_true, decide_eq_true_eq] at h
    have a := ia (z := x.a) (by omega) (by omega)
    have b := ia (z := x.b) (by omega) (by omega)
    simp; omega
  by_cases h9 : x.op = 9
  · rw [if_neg h1, if_neg h2, if_neg h3, if_neg (by omega), if_pos h9] at h
    rw [if_pos (by omega)]
    simp only [Bool.and_eq_true, decide_eq_true_eq] at h
    have a := ia (z := x.a) (by omega) (by omega)
    have b := ia (z := x.b) (by omega) (by omega)
    simp; omega
  rw [if_neg (by omega)]
  by_cases h11 : x.op = 11 ∨ x.op = 14
  · rw [if_pos h11]; simp
  rw [if_neg h11]
  by_cases h7 : x.op = 7 ∨ x.op = 8 ∨ x.op = 10
  · rw [if_neg h1, if_neg h2, if_neg h3, if_pos h7] at h
    simp only [Bool.and_eq_true, decide_eq_true_eq] at h
    have a := ia (z := x.a) (by omega) (by omega)
    simp; omega
  by_cases h12 : x.op = 12 ∨ x.op = 13
  · rw [if_neg h1, if_neg h2, if_neg h3, if_neg h7, if_neg h9, if_neg h11, if_pos h12] at h
    simp only [Bool.and_eq_true, decide_eq_true_eq] at h
    have a := ia (z := x.a) (by omega) (by omega)
    simp; omega
  · rw [if_neg h1, if_neg h2, if_neg h3, if_neg h7, if_neg h9, if_neg h11, if_neg h12] at h
    cases h
set_option maxRecDepth 100000 in
set_option maxHeartbeats 8000000 in
theorem operands_any (x : Ins) (u : Value) (n : Nat) (w : World) (h : In w u x.d.is) (hm : CD.may n x = true) (hn : n ≤ 1000000) (hT : Tab w) :
    Calls Tryd.prog 35 #[insv x u] w (CStr (CD.opd x) w) := by
  have hl := opd_len hm hn
  have hop := CD.may_op hm
  obtain ⟨I, iq, rfl⟩ := h.read
  have hb0 : Below w.heap.size w (w.alloc (.cells #[.int .i64 x.op, .int .i64 x.a, .int .i64 x.b, .string ⟨x.s.toArray⟩, .int .i64 x.d.k, .int .i64 x.d.n, .string ⟨x.d.s.toArray⟩, .slice I x.d.is.len iq] 44)) := (Below.refl _ _).alloc (Nat.le_refl _) _
  have hT0 := hT.on hb0
  have hV := Lib.hid (fun (hq : TM.quo x.d = true) => value16_any x.d _ (.slice I x.d.is.len iq) (h.below hb0) hq hT0)
  have hX := Lib.hid (fun (z : Int) (h0 : -9223372036854775808 ≤ z) (h1 : z ≤ 9223372036854775807) (w' : World) (ht : Tab w') => text_any z h0 h1 w' ht)
  have hM := Lies.made w 44 #[.int .i64 x.op, .int .i64 x.a, .int .i64 x.b, .string ⟨x.s.toArray⟩, .int .i64 x.d.k, .int .i64 x.d.n, .string ⟨x.d.s.toArray⟩, .slice I x.d.is.len iq]
  unfold dtv at hV
  unfold insv CStr
  have hm' := Lib.hid hm
  clear hm h
  unfold CD.may at hm'
  by_cases h1 : x.op = 1
  · have hq : TM.quo x.d = true := by have := hm'.out; simp only [h1, if_true, Bool.and_eq_true] at this; exact this.1.1.1
    have e : CD.opd x = 32 :: CD.val x.d := by unfold CD.opd; rw [if_pos h1]
    have hV2 := Lib.hid (hV.out hq)
    have hvl := val_len hq
    rw [e, h1]
    rw [h1] at hV2 hb0
    clear hM hV hX hT0 e hl
    go_enter Tryd.func35, Tryd.ntmps35
    go_wp2_with (
      go_at_call 46
      refine hV2.out.mono ?_
      rintro e w2 ⟨⟨X, rfl, hX⟩, hb2⟩
      have hXs := csize hX
      have hX' := Lib.hid hX
      clear hX)
    go_ret
    exact ⟨⟨_, rfl, by simp [hX'.out]⟩, hb0.trans (Below.mono hb2 hb0.size)⟩
  by_cases h3 : x.op = 3 ∨ x.op = 5 ∨ x.op = 6
  · have e : CD.opd x = 32 :: x.s := by unfold CD.opd; rw [if_neg h1, if_pos h3]
    have hs : x.s.length ≤ 60 := by have := hm'.out; rw [if_neg h1, if_neg (by omega), if_pos h3] at this; simp only [Bool.and_eq_true] at this; exact SM.sym_short this.1.1.1
    obtain ⟨X, hXe, hXl, hXs⟩ := cbytes x.s
    rw [hXe] at hb0 ⊢
    rw [e, ← hXl]
    clear hM hV hX hT0 e hl hXl hXe
    rcases h3 with h3 | h3 | h3
    all_goals
      rw [h3] at hb0 ⊢
      go_enter Tryd.func35, Tryd.ntmps35
      go_wp2_with fail
      go_ret
      exact ⟨⟨_, rfl, by simp⟩, hb0⟩
  by_cases h2 : x.op = 2 ∨ x.op = 4 ∨ x.op = 9
  · have e : CD.opd x = 32 :: (Lib.itoa x.a ++ 32 :: Lib.itoa x.b) := by unfold CD.opd; rw [if_neg h1, if_neg h3, if_pos h2]
    have hab : (0 ≤ x.a ∧ x.a ≤ 1000000) ∧ 0 ≤ x.b ∧ x.b ≤ 1000000 := by
      have := hm'.out
      by_cases h4 : x.op = 2 ∨ x.op = 4
      · rw [if_neg h1, if_pos h4] at this; simp only [Bool.and_eq_true, decide_eq_true_eq] at this; omega
      · rw [if_neg h1, if_neg h4, if_neg h3, if_neg (by omega), if_pos (by omega)] at this; simp only [Bool.and_eq_true, decide_eq_true_eq] at this; omega
    have hl1 := Lib.itoa_length_le x.a (by omega) (by omega)
    have hl2 := Lib.itoa_length_le x.b (by omega) (by omega)
    obtain ⟨X1, hX1, hX1l, hX1s⟩ := cbytes (Lib.itoa x.a)
    obtain ⟨X2, hX2, hX2l, hX2s⟩ := cbytes (Lib.itoa x.b)
    have hA := Lib.hid (hX.out x.a (by omega) (by omega))
    have hB := Lib.hid (hX.out x.b (by omega) (by omega))
    rw [hX1] at hA
    rw [hX2] at hB
    rw [e, ← hX1l, ← hX2l]
    have s1 : X1.size ≤ 21 := by omega
    have s2 : X2.size ≤ 21 := by omega
    clear hV hX e hl hX1 hX2 hX1l hX2l hX1s hX2s hl1 hl2
    rcases h2 with h2 | h2 | h2
    all_goals
      rw [h2] at hb0 hT0 hM ⊢
      go_enter Tryd.func35, Tryd.ntmps35
      go_wp2_with (first
        | (go_at_call 33
           with_reducible refine (hB.out _ hT0).mono ?_
           rintro e w2 ⟨rfl, hb2⟩
           have hM2 := hM.below hb2 hM.lt
           have y1 := hM2.cell 1
           simp only [List.getElem?_cons_succ, List.getElem?_cons_zero] at y1
           have hT2 := hT0.on hb2
           have hb3 : Below w.heap.size w w2 := hb0.trans (Below.mono hb2 hb0.size)
           clear hM2)
        | (go_at_call 33
           with_reducible refine (hA.out _ hT2).mono ?_
           rintro e w4 ⟨rfl, hb4⟩))
      go_ret
      exact ⟨⟨_, rfl, by simp⟩, hb3.trans (Below.mono hb4 hb3.size)⟩
  by_cases h11 : x.op = 11 ∨ x.op = 14
  · have e : CD.opd x = [] := by unfold CD.opd; rw [if_neg h1, if_neg h3, if_neg h2, if_pos h11]
    rw [e]
    clear hM hV hX hT0 e hl
    rcases h11 with h2 | h2
    all_goals
      rw [h2] at hb0 ⊢
      go_enter Tryd.func35, Tryd.ntmps35
      go_wp2_with fail
      go_ret
      exact ⟨⟨_, rfl, rfl⟩, hb0⟩
  · have e : CD.opd x = 32 :: Lib.itoa x.a := by unfold CD.opd; rw [if_neg h1, if_neg h3, if_neg h2, if_neg h11]
    have hab : 0 ≤ x.a ∧ x.a ≤ 1000000 := by
      have := hm'.out
      by_cases h4 : x.op = 7 ∨ x.op = 8 ∨ x.op = 10
      · rw [if_neg h1, if_neg (by omega), if_neg h3, if_pos h4] at this; simp only [Bool.and_eq_true, decide_eq_true_eq] at this; omega
      · rw [if_neg h1, if_neg (by omega), if_neg h3, if_neg h4, if_neg (by omega), if_neg h11, if_pos (by omega)] at this; simp only [Bool.and_eq_true, decide_eq_true_eq] at this; omega
    have hl1 := Lib.itoa_length_le x.a (by omega) (by omega)
    obtain ⟨X1, hX1, hX1l, hX1s⟩ := cbytes (Lib.itoa x.a)
    have hA := Lib.hid (hX.out x.a (by omega) (by omega))
    rw [hX1] at hA
    rw [e, ← hX1l]
    have s1 : X1.size ≤ 21 := by omega
    clear hV hX e hl hX1 hX1l hX1s hl1 hM
    rcases (show x.op = 7 ∨ x.op = 8 ∨ x.op = 10 ∨ x.op = 12 ∨ x.op = 13 by omega) with h2 | h2 | h2 | h2 | h2
    all_goals
      rw [h2] at hb0 hT0 ⊢
      go_enter Tryd.func35, Tryd.ntmps35
      go_wp2_with (
        go_at_call 33
        refine (hA.out _ hT0).mono ?_
        rintro e w2 ⟨rfl, hb2⟩)
      go_ret
      exact ⟨⟨_, rfl, by simp⟩, hb0.trans (Below.mono hb2 hb0.size)⟩
end Go.Proofs.YthfelkcomhflnaaDoor
