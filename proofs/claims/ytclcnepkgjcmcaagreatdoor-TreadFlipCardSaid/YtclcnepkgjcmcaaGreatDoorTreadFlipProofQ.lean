/- Proved: for every input, the law TreadFlip of spindlelaw05 returns true and leaves its arguments as they were; the table that its row lists is tied to the program's text. No condition. -/
import Derived.Test.YtclcnepkgjcmcaaGreatDoorQ5
import Derived.Test.YtclcnepkgjcmcaaGreatDoorQ49
import Derived.Test.YtclcnepkgjcmcaaGreatDoorQ44
import Derived.SevenTiedAt
namespace Go.Proofs.YtclcnepkgjcmcaaGreatDoor.treadFlip
open Go.ChangeShapes Go.WideShapes Go.ChangeAt Go.RowKit Go.Deep
set_option linter.unusedVariables false

set_option maxRecDepth 100000 in
theorem params_read : ∀ t ∈ Tryz.f3.params.toList, Tryz.prog.readableRec t = true ∧ t < Tryz.prog.types.size := by
  rw [Tryz.params3]
  exact List.forall_mem_cons.2 ⟨⟨by kernel_rfl, of_decide_eq_true (by kernel_rfl)⟩, List.forall_mem_cons.2 ⟨⟨by kernel_rfl, of_decide_eq_true (by kernel_rfl)⟩, List.forall_mem_cons.2 ⟨⟨by kernel_rfl, of_decide_eq_true (by kernel_rfl)⟩, fun _ h => absurd h (by simp)⟩⟩⟩

set_option maxRecDepth 100000 in
/-- What the walk gives, for every argument and every world that holds the table. -/
theorem contract (H : Type) (enc : TypeId × Value → H) (W : World) (base : Nat) (args : Array Value) (ds gs : List (DataW H)) (before : List MemPlace)
    (hval : ∀ (j : Nat) t v, Tryz.f3.params[j]? = some t → args[j]? = some v → Value.okWide Tryz.prog W .any base t v)
    (hW : DataW.Whole enc Tryz.prog Tryz.f3.params.toList Rows.treadFlipSpec.vars false W args.toList ds gs before) (hL : laidMetH Tryz.prog Rows.treadFlipRow.laid W) :
    Calls Tryz.prog 3 args W fun e W' => ∃ v, e = .returned v ∧ Rows.treadFlipSpec.post enc Tryz.prog Tryz.f3 false true false false W args v W' := by
  have hT : Tab W := table hL
  have hW' := hW
  obtain ⟨p, q, hA0, hV, rfl, hfz, hnd⟩ := hW
  have hA : DataW.TrodAll enc Tryz.prog W 0 (fun _ => true) true Tryz.f3.params.toList args.toList ds p := hA0
  rw [Tryz.params3] at hA hval
  obtain ⟨v0, vs0, d0, ds0, p0, q0, hargs, rfl, rfl, h0, r0⟩ := trodAll_cons hA
  obtain ⟨v1, vs1, d1, ds1, p1, q1, rfl, rfl, rfl, h1, r1⟩ := trodAll_cons r0
  obtain ⟨v2, vs2, d2, ds2, p2, q2, rfl, rfl, rfl, h2, r2⟩ := trodAll_cons r1
  obtain ⟨rfl, rfl, rfl⟩ := trodAll_nil r2
  obtain rfl : args = #[v0, v1, v2] := by cases args; simp_all
  obtain ⟨rfl, rfl⟩ := trodVars_none hV
  obtain ⟨x0, k0, rfl⟩ := conf_open Tryz.underlying24 Tryz.underlying22 Tryz.underlying3 Tryz.underlying3 rfl rfl (by kernel_rfl) (by kernel_rfl) (by kernel_rfl) (by kernel_rfl) (hval 0 24 v0 rfl rfl) h0
  obtain ⟨A1, n1, c1, z1, rfl, m1, w1⟩ := came_rows_open (ks := [.i64, .i64, .i64, .i64, .i64]) Tryz.underlying25 Tryz.underlying32 (by kernel_rfl) (by kernel_rfl) rfl (fun j f k hf hk => by
      match j, hf, hk with
      | 0, hf, hk => simp at hf hk; subst hf; subst hk; exact Tryz.underlying3
      | 1, hf, hk => simp at hf hk; subst hf; subst hk; exact Tryz.underlying3
      | 2, hf, hk => simp at hf hk; subst hf; subst hk; exact Tryz.underlying3
      | 3, hf, hk => simp at hf hk; subst hf; subst hk; exact Tryz.underlying3
      | 4, hf, hk => simp at hf hk; subst hf; subst hk; exact Tryz.underlying3
      | _ + 5, hf, hk => simp at hk) (by decide) (hval 1 25 v1 rfl rfl) h1
  obtain ⟨A2, n2, c2, z2, rfl, m2, w2⟩ := came_rows_open (ks := [.i64, .i64, .i64, .i64, .i64]) Tryz.underlying25 Tryz.underlying32 (by kernel_rfl) (by kernel_rfl) rfl (fun j f k hf hk => by
      match j, hf, hk with
      | 0, hf, hk => simp at hf hk; subst hf; subst hk; exact Tryz.underlying3
      | 1, hf, hk => simp at hf hk; subst hf; subst hk; exact Tryz.underlying3
      | 2, hf, hk => simp at hf hk; subst hf; subst hk; exact Tryz.underlying3
      | 3, hf, hk => simp at hf hk; subst hf; subst hk; exact Tryz.underlying3
      | 4, hf, hk => simp at hf hk; subst hf; subst hk; exact Tryz.underlying3
      | _ + 5, hf, hk => simp at hk) (by decide) (hval 2 25 v2 rfl rfl) h2
  clear hA0
  refine (show Calls Tryz.prog 3 _ W fun e w' => e = .returned (.bool true) ∧ Below W.heap.size W w' from flip_walk x0.a x0.b x0.c x0.d k0 A1 n1 c1 z1 m1 A2 n2 c2 z2 m2 W w1 w2 hT).mono fun e W' ⟨he, hg⟩ => ?_
  subst he
  exact ⟨_, rfl, law_post Tryz.laidOut params_read (by kernel_rfl) Tryz.underlying4 rfl rfl rfl rfl hW' hg⟩

theorem reads (os : Go.Os) {H : Type} (enc : TypeId × Value → H) : ∃ places, DataW.whole enc Tryz.prog ((laidWorld os).forCall (fun _ _ => 0) ⟨#[], #[.agg #[.int .i64 0, .int .i64 0, .int .i64 0, .int .i64 0, .int .i64 0], .slice none 0 0, .slice none 0 0], []⟩).memory Tryz.f3.params.toList Rows.treadFlipSpec.vars false (#[.agg #[.int .i64 0, .int .i64 0, .int .i64 0, .int .i64 0, .int .i64 0], .slice none 0 0, .slice none 0 0] : Array Value).toList 8 = some ([.agg [.agg [.lit (.int .i64 0), .lit (.int .i64 0), .lit (.int .i64 0), .lit (.int .i64 0)], .lit (.int .i64 0)], .nil, .nil], [], places) :=
  ⟨[], by kernel_rfl⟩

set_option maxRecDepth 100000 in
theorem lifted (os : Go.Os) (started : os.Started) (H : Type) (enc : TypeId × Value → H) (F : Stop.Interp) :
    ReturnsInHanded {} Tryz.checked os 3 .any ((OpenSpec.ofChange Rows.treadFlipSpec).preRow enc Tryz.prog Tryz.f3 Rows.treadFlipRow.domain false Rows.treadFlipRow.laid) (((OpenSpec.ofChange Rows.treadFlipSpec).at F).post enc Tryz.prog Tryz.f3 false true false false) := by
  obtain ⟨places, hx⟩ := reads os enc
  refine returnsInHanded_of_row (C := Tryz.checked) (s := OpenSpec.ofChange Rows.treadFlipSpec) own started (by kernel_rfl) Tryz.func3
    (witness_row_at (enc := enc) (C := Tryz.checked) false (laidWorld os) #[.agg #[.int .i64 0, .int .i64 0, .int .i64 0, .int .i64 0, .int .i64 0], .slice none 0 0, .slice none 0 0] rfl (by kernel_rfl) (by kernel_rfl) (by kernel_rfl)
      (OpenSpec.preRow_of_cond 8 hx (by kernel_rfl) (fun k hk => by cases hk) (by kernel_rfl) (laid_met os _))) ?_
  intro W base args ds gs before hval hW _ _ _ hL _ _
  exact contract H enc W base args ds gs before hval hW hL

theorem said : Rows.TreadFlipSaid :=
  OpenClaim.holds_of_cond 3 Tryz.f3 rfl rfl rfl rfl rfl rfl rfl ⟨rfl, rfl, rfl, rfl, rfl⟩ rfl rfl rfl rfl rfl (by kernel_rfl) Tryz.func3 (by kernel_rfl)
    (of_decide_eq_true (by kernel_rfl)) (by unfold Func.isWrapper; first | (rw [if_pos (by decide +kernel)]; kernel_rfl) | (rw [if_neg (by decide +kernel)]; exact ⟨rfl, rfl⟩))
    (fun os started H enc _ F => by rw [OpenClaim.pre_eq_preRow]; exact lifted os started H enc F)

/-- No parameter wants a stand-in; the program's own looks are off. -/
theorem plain (f : FuncId) (fn : Func) (hf : Tryz.pinned.checked.prog.funcNamed "spindle/spindlelaw05.TreadFlip" = some f) (hfn : Tryz.pinned.checked.prog.funcs[f]? = some fn) :
    true = Tryz.pinned.checked.prog.looks [] ∧ ∀ (j : Nat) t, fn.params[j]? = some t → Tryz.pinned.checked.prog.wantsStandIn t = false := by
  obtain rfl : f = 3 := Option.some.inj ((show Tryz.prog.funcNamed "spindle/spindlelaw05.TreadFlip" = some 3 by kernel_rfl).symm.trans hf) |>.symm
  obtain rfl : fn = Tryz.f3 := (Option.some.inj (Tryz.func3.symm.trans hfn)).symm
  refine ⟨by kernel_rfl, fun j t ht => ?_⟩
  rw [Tryz.params3] at ht
  have hm : t = 24 ∨ t = 25 := by
    have := Array.mem_of_getElem? ht
    simp at this
    first
      | omega
      | exact this
      | exact this.symm
      | (rcases this with h | h <;> simp [h])
      | (rcases this with h | h | h <;> simp [h])
      | (rcases this with h | h | h | h <;> simp [h])
      | (rcases this with h | h | h | h | h <;> simp [h])
      | (rcases this with rfl | rfl | rfl | rfl | rfl <;> simp)
      | (rcases this with rfl | rfl | rfl | rfl <;> simp)
  rcases hm with rfl | rfl
  · exact (show Tryz.prog.wantsStandIn 24 = false by kernel_rfl)
  · exact (show Tryz.prog.wantsStandIn 25 = false by kernel_rfl)

/-- The statement: the card. -/
theorem proved : Rows.TreadFlipCardSaid :=
  Claim7.holds_tied_plain_at .later [] _ _ _ _ said (fun _ h => by cases h) (by kernel_rfl) (fun _ h => by cases h) treadFlip_row_tie rfl ⟨rfl, rfl⟩ (by kernel_rfl) rfl plain (by kernel_rfl)
#print axioms proved
end Go.Proofs.YtclcnepkgjcmcaaGreatDoor.treadFlip
