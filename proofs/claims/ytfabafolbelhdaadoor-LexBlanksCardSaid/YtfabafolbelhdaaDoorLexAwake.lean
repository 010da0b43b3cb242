/- Tokens and faults held against one another; the closed part of every law of layer 7. -/
import Derived.Test.YtfabafolbelhdaaDoorLexAllB
import Derived.Test.YtfabafolbelhdaaDoorLexTells
import Derived.Test.YtfabafolbelhdaaDoorLexClosed
namespace Go.Proofs.YtfabafolbelhdaaDoor
open Go.ChangeShapes Go.WideShapes Go.ChangeAt Go.RowKit

theorem eql_token (k n : Int) (s : ByteArray) (l c x : Int) (w : World) :
    (binOp .eql 44 (.agg #[.int .i64 k, .int .i64 n, .string s, .int .i64 l, .int .i64 c, .int .i64 x]) (.agg #[.int .i64 k, .int .i64 n, .string s, .int .i64 l, .int .i64 c, .int .i64 x])).run Tryd.prog w = .ok (.bool true) w := by
  have u3 := Tryd.underlying3
  have u9 := Tryd.underlying9
  have a3 := Tryd.isAgg3
  have a9 := Tryd.isAgg9
  have hS : Tryd.prog.underlying 44 = some (.struct (Tryd.prog.fieldsOf 44)) := by kernel_rfl
  have hp : Tryd.prog.stoodInHeld 44 = false := by kernel_rfl
  rw [run_eql_struct, show (10000 : Nat) = 9999 + 1 from rfl, run_equalIn_agg w 9999 44 _ _ hS hp]
  simp only [Program.fieldsOf, Tryd.underlying44]
  go_simp
theorem eql_fault (k l c : Int) (w : World) :
    (binOp .eql 35 (.agg #[.int .i64 k, .int .i64 l, .int .i64 c]) (.agg #[.int .i64 k, .int .i64 l, .int .i64 c])).run Tryd.prog w = .ok (.bool true) w := by
  have u3 := Tryd.underlying3
  have a3 := Tryd.isAgg3
  have hS : Tryd.prog.underlying 35 = some (.struct (Tryd.prog.fieldsOf 35)) := by kernel_rfl
  have hp : Tryd.prog.stoodInHeld 35 = false := by kernel_rfl
  rw [run_eql_struct, show (10000 : Nat) = 9999 + 1 from rfl, run_equalIn_agg w 9999 35 _ _ hS hp]
  simp only [Program.fieldsOf, Tryd.underlying35]
  go_simp

theorem All_0 (w : World) : Calls Tryd.prog 14 #[.string ⟨#[40, 97, 32, 45, 49, 50, 32, 35, 116, 41]⟩] w fun e w' => ∃ g q, e = .returned (.tuple #[.slice (some ⟨g, 0, none⟩) 5 q, .nilIface]) ∧ OwnT w' w.heap.size (.slice (some ⟨g, 0, none⟩) 5 q) LM.tv0 ∧ Went w w' := by
  have h := All_any ⟨#[40, 97, 32, 45, 49, 50, 32, 35, 116, 41]⟩ (by decide) w
  rw [show LM.alls ((⟨#[40, 97, 32, 45, 49, 50, 32, 35, 116, 41]⟩ : ByteArray).size + 1) (⟨#[40, 97, 32, 45, 49, 50, 32, 35, 116, 41]⟩ : ByteArray).data.toList 0 1 1 = (LM.tv0, (0, 0, 0)) from LM.alls0] at h
  refine h.mono ?_
  rintro e w' ⟨v, rfl, ho, hb⟩
  obtain ⟨A, q, rfl⟩ := OwnT.read ho
  obtain ⟨g, rfl, _⟩ := OwnT.cell ho (i := 0) (t := ⟨1, 0, [], 1, 1, 1⟩) rfl
  exact ⟨g, q, rfl, ho, hb⟩
theorem Next_1 (w : World) : Calls Tryd.prog 21 #[.string ⟨#[35, 92, 115, 112, 97, 99, 101]⟩, .int .i64 0, .int .i64 1, .int .i64 1] w fun e w' => e = .returned (.tuple #[.agg #[.int .i64 11, .int .i64 32, .string ⟨#[]⟩, .int .i64 1, .int .i64 1, .int .i64 7], .nilIface]) ∧ Went w w' := by
  have h := Next_any ⟨#[35, 92, 115, 112, 97, 99, 101]⟩ (by decide) 0 (by decide) 1 1 (by decide) (by decide) w
  rw [show LM.nx ((⟨#[35, 92, 115, 112, 97, 99, 101]⟩ : ByteArray).data.toList.drop 0) 1 1 = ⟨LM.tok 11 32 [] 7, 1, 1, 7⟩ from LM.nx1, nxv_yes rfl] at h
  exact h
theorem Next_2 (w : World) : Calls Tryd.prog 21 #[.string ⟨#[32, 35, 120]⟩, .int .i64 0, .int .i64 1, .int .i64 1] w fun e w' => e = .returned (.tuple #[.agg #[.int .i64 0, .int .i64 0, .string ⟨#[]⟩, .int .i64 0, .int .i64 0, .int .i64 0], atv 1 2 6]) ∧ Went w w' := by
  have h := Next_any ⟨#[32, 35, 120]⟩ (by decide) 0 (by decide) 1 1 (by decide) (by decide) w
  rw [show LM.nx ((⟨#[32, 35, 120]⟩ : ByteArray).data.toList.drop 0) 1 1 = ⟨LM.bad 6, 1, 2, 1⟩ from LM.nx2, nxv_no (by decide)] at h
  exact h
theorem Symbol_1 (w : World) : Calls Tryd.prog 22 #[.string ⟨#[49, 43]⟩] w fun e w' => e = .returned (.bool true) ∧ w = w' := by
  have h := Symbol_any ⟨#[49, 43]⟩ (by decide) w
  rwa [show LM.sym (⟨#[49, 43]⟩ : ByteArray).data.toList = true from LM.sym1] at h
theorem Symbol_2 (w : World) : Calls Tryd.prog 22 #[.string ⟨#[49, 50]⟩] w fun e w' => e = .returned (.bool false) ∧ w = w' := by
  have h := Symbol_any ⟨#[49, 50]⟩ (by decide) w
  rwa [show LM.sym (⟨#[49, 50]⟩ : ByteArray).data.toList = false from LM.sym2] at h

set_option maxRecDepth 100000 in
set_option maxHeartbeats 4000000 in
theorem awake_any (w : World) (hT : ETab w) : Calls Tryd.prog 13 #[] w fun e w' => e = .returned (.bool true) ∧ Went w w' := by
  have ET := Lib.hid eql_token
  have et1 := eql_token 9 (-12) ⟨#[]⟩ 1 4 6
  have ef1 := eql_fault 6 1 2
  go_enter Tryd.func13, Tryd.ntmps13
  go_wp2_with (first
    | (go_at_call 14
       refine (All_0 _).mono ?_
       rintro e w1 ⟨g, q1, rfl, ho1, hb1⟩)
    | (go_at_call 21
       (with_reducible refine (Next_1 _).mono ?_)
       rintro e w2 ⟨rfl, hb2⟩
       have ho2 : OwnT w2 w.heap.size _ LM.tv0 := own_below ho1 hb2)
    | (go_at_call 21
       (with_reducible refine (Next_2 _).mono ?_)
       rintro e w3 ⟨rfl, hb3⟩
       have ho3 : OwnT w3 w.heap.size _ LM.tv0 := own_below (own_below ho2 ((Below.refl _ _).alloc (Nat.le_refl _) _)) hb3
       have hN3 := (Lies.made w2 44 #[.int .i64 11, .int .i64 32, .string ⟨#[]⟩, .int .i64 1, .int .i64 1, .int .i64 7]).below hb3 (by simp)
       obtain ⟨_, hg, _, hz3, p0, p1, p2, p3, p4, p5⟩ := OwnT.cell ho3 (i := 2) (t := ⟨9, -12, [], 1, 4, 6⟩) rfl
       cases hg
       obtain ⟨_, hg, _, _, _, _, _, _, r4, _⟩ := OwnT.cell ho3 (i := 4) (t := ⟨2, 0, [], 1, 10, 10⟩) rfl
       cases hg
       have n0 : w3.cell? ⟨w2.heap.size, 0, none⟩ = some (.int .i64 11) := hN3.cell 0
       have n1 : w3.cell? ⟨w2.heap.size, 1, none⟩ = some (.int .i64 32) := hN3.cell 1
       have hz4 := hN3.lt
       have hT3 : ETab w3 := ((hT.on hb1).on hb2 |>.on ((Below.refl _ _).alloc (Nat.le_refl _) _)).on hb3
       have hb4 : Went w w3 := (hb1.trans hb2).trans (below_new hb3)
       simp only [Nat.reduceMul, Nat.reduceAdd] at p0 p1 p2 p3 p4 p5 r4
       clear ho1 ho2 ho3 hN3)
    | (go_at_call 12
       refine (Fault_at 1 2 6 (by omega) (by omega) _ (hT3.on ((Below.refl _ _).alloc (Nat.le_refl _) _))).mono ?_
       rintro e w5 ⟨rfl, hb5⟩)
    | (go_at_call 22
       (with_reducible refine (Symbol_1 _).mono ?_)
       rintro e w' ⟨rfl, rfl⟩)
    | (go_at_call 22
       (with_reducible refine (Symbol_2 _).mono ?_)
       rintro e w' ⟨rfl, rfl⟩))
  go_ret
  exact ⟨rfl, hb4.trans (below_new hb5)⟩
end Go.Proofs.YtfabafolbelhdaaDoor
