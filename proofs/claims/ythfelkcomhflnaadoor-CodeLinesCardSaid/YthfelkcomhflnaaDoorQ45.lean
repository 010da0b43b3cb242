/- The law's awake of stage 16, walked. -/
import Derived.Test.YthfelkcomhflnaaDoorQ44
import Derived.WalkSpells
namespace Go.Proofs.YthfelkcomhflnaaDoor
open Go.ChangeShapes Go.WideShapes Go.ChangeAt Go.RowKit Go.Deep
open CD (Ins)

theorem pin_lit {w : World} {g c : Nat} {l : List Int} (h : Lies w g 3 (l.map (.int .i64))) (hl : l.length ≤ 1000) : PIn w (.slice (some ⟨g, 0, none⟩) l.length c) l := by
  refine ⟨_, _, rfl, by omega, g, 0, fun _ => ⟨rfl, h.lt⟩, fun j x hx => ?_⟩
  rw [Nat.zero_add, h.cell j, List.getElem?_map, hx]; rfl
theorem stacks_no (l : List Ins) (w : World) (v : Value) (h : IIn w v l) (hn : ¬ (CD.rgt l = true ∧ CD.Well l)) : Calls Tryd.prog 8 #[v] w fun e w' => e = .returned (.tuple #[.slice none 0 0, .iface 34 (.int .i64 19)]) ∧ Went w w' := by
  refine (stacks_any l w v h).mono ?_
  rintro e w' ⟨hb, ⟨rfl, -⟩ | ⟨S, b, -, h1, h2, -⟩⟩
  · exact ⟨rfl, hb⟩
  · exact absurd ⟨h1, h2.well⟩ hn
theorem stacks_yes (l : List Ins) (n : Nat) (hn : l.length = n) (S : List (List Int)) (w : World) (v : Value) (h : IIn w v l) (hr : CD.rgt l = true) (hF : CD.Fin l S) : Calls Tryd.prog 8 #[v] w fun e w' => ∃ b, e = .returned (.tuple #[.slice (some ⟨b, 0, none⟩) n n, .nilIface]) ∧ w.heap.size ≤ b ∧ Stk w' b S ∧ Went w w' := by
  refine (stacks_any l w v h).mono ?_
  rintro e w' ⟨hb, ⟨-, h1⟩ | ⟨S', b, rfl, -, h2, h3, h4⟩⟩
  · exact absurd ⟨hr, hF.well⟩ h1
  · rw [h2.same hF] at h4
    exact ⟨b, by rw [hn], h3, h4, hb⟩
set_option maxRecDepth 100000 in
set_option maxHeartbeats 8000000 in
theorem awake16_any (w : World) (hT : Tab w) : Calls Tryd.prog 6 #[] w fun e w' => e = .returned (.bool true) ∧ Went w w' := by
  have hL1 : Lies (w.alloc (.cells #[.int .i64 10, .int .i64 6, .int .i64 0, .string ⟨#[]⟩, .int .i64 0, .int .i64 0, .string ⟨#[]⟩, .slice none 0 0, .int .i64 3, .int .i64 0, .int .i64 0, .string ⟨#[102]⟩, .int .i64 0, .int .i64 0, .string ⟨#[]⟩, .slice none 0 0, .int .i64 11, .int .i64 0, .int .i64 0, .string ⟨#[]⟩, .int .i64 0, .int .i64 0, .string ⟨#[]⟩, .slice none 0 0, .int .i64 1, .int .i64 0, .int .i64 0, .string ⟨#[]⟩, .int .i64 1, .int .i64 1, .string ⟨#[]⟩, .slice none 0 0, .int .i64 11, .int .i64 0, .int .i64 0, .string ⟨#[]⟩, .int .i64 0, .int .i64 0, .string ⟨#[]⟩, .slice none 0 0, .int .i64 12, .int .i64 1, .int .i64 0, .string ⟨#[]⟩, .int .i64 0, .int .i64 0, .string ⟨#[]⟩, .slice none 0 0, .int .i64 14, .int .i64 0, .int .i64 0, .string ⟨#[]⟩, .int .i64 0, .int .i64 0, .string ⟨#[]⟩, .slice none 0 0] 44)) w.heap.size 44 aw7c := Lies.made w 44 #[.int .i64 10, .int .i64 6, .int .i64 0, .string ⟨#[]⟩, .int .i64 0, .int .i64 0, .string ⟨#[]⟩, .slice none 0 0, .int .i64 3, .int .i64 0, .int .i64 0, .string ⟨#[102]⟩, .int .i64 0, .int .i64 0, .string ⟨#[]⟩, .slice none 0 0, .int .i64 11, .int .i64 0, .int .i64 0, .string ⟨#[]⟩, .int .i64 0, .int .i64 0, .string ⟨#[]⟩, .slice none 0 0, .int .i64 1, .int .i64 0, .int .i64 0, .string ⟨#[]⟩, .int .i64 1, .int .i64 1, .string ⟨#[]⟩, .slice none 0 0, .int .i64 11, .int .i64 0, .int .i64 0, .string ⟨#[]⟩, .int .i64 0, .int .i64 0, .string ⟨#[]⟩, .slice none 0 0, .int .i64 12, .int .i64 1, .int .i64 0, .string ⟨#[]⟩, .int .i64 0, .int .i64 0, .string ⟨#[]⟩, .slice none 0 0, .int .i64 14, .int .i64 0, .int .i64 0, .string ⟨#[]⟩, .int .i64 0, .int .i64 0, .string ⟨#[]⟩, .slice none 0 0]
  have hb1 : Below w.heap.size w (w.alloc (.cells #[.int .i64 10, .int .i64 6, .int .i64 0, .string ⟨#[]⟩, .int .i64 0, .int .i64 0, .string ⟨#[]⟩, .slice none 0 0, .int .i64 3, .int .i64 0, .int .i64 0, .string ⟨#[102]⟩, .int .i64 0, .int .i64 0, .string ⟨#[]⟩, .slice none 0 0, .int .i64 11, .int .i64 0, .int .i64 0, .string ⟨#[]⟩, .int .i64 0, .int .i64 0, .string ⟨#[]⟩, .slice none 0 0, .int .i64 1, .int .i64 0, .int .i64 0, .string ⟨#[]⟩, .int .i64 1, .int .i64 1, .string ⟨#[]⟩, .slice none 0 0, .int .i64 11, .int .i64 0, .int .i64 0, .string ⟨#[]⟩, .int .i64 0, .int .i64 0, .string ⟨#[]⟩, .slice none 0 0, .int .i64 12, .int .i64 1, .int .i64 0, .string ⟨#[]⟩, .int .i64 0, .int .i64 0, .string ⟨#[]⟩, .slice none 0 0, .int .i64 14, .int .i64 0, .int .i64 0, .string ⟨#[]⟩, .int .i64 0, .int .i64 0, .string ⟨#[]⟩, .slice none 0 0] 44)) := (Below.refl _ w).alloc (Nat.le_refl _) _
  have hA := Lib.hid (stacks_yes aw7 7 rfl awS (w.alloc (.cells #[.int .i64 10, .int .i64 6, .int .i64 0, .string ⟨#[]⟩, .int .i64 0, .int .i64 0, .string ⟨#[]⟩, .slice none 0 0, .int .i64 3, .int .i64 0, .int .i64 0, .string ⟨#[102]⟩, .int .i64 0, .int .i64 0, .string ⟨#[]⟩, .slice none 0 0, .int .i64 11, .int .i64 0, .int .i64 0, .string ⟨#[]⟩, .int .i64 0, .int .i64 0, .string ⟨#[]⟩, .slice none 0 0, .int .i64 1, .int .i64 0, .int .i64 0, .string ⟨#[]⟩, .int .i64 1, .int .i64 1, .string ⟨#[]⟩, .slice none 0 0, .int .i64 11, .int .i64 0, .int .i64 0, .string ⟨#[]⟩, .int .i64 0, .int .i64 0, .string ⟨#[]⟩, .slice none 0 0, .int .i64 12, .int .i64 1, .int .i64 0, .string ⟨#[]⟩, .int .i64 0, .int .i64 0, .string ⟨#[]⟩, .slice none 0 0, .int .i64 14, .int .i64 0, .int .i64 0, .string ⟨#[]⟩, .int .i64 0, .int .i64 0, .string ⟨#[]⟩, .slice none 0 0] 44)) (.slice (some ⟨w.heap.size, 0, none⟩) 7 7) (iin_lies (l := aw7) hL1 (fun _ _ h => h) (aw7_at _) (by decide)) aw7_rgt aw7_fin)
  have hb1' := Lib.hid hb1
  have hL1' := Lib.hid hL1
  have hX := Lib.hid (fun (w' : World) (k : Below ((w.alloc (.cells #[.int .i64 10, .int .i64 6, .int .i64 0, .string ⟨#[]⟩, .int .i64 0, .int .i64 0, .string ⟨#[]⟩, .slice none 0 0, .int .i64 3, .int .i64 0, .int .i64 0, .string ⟨#[102]⟩, .int .i64 0, .int .i64 0, .string ⟨#[]⟩, .slice none 0 0, .int .i64 11, .int .i64 0, .int .i64 0, .string ⟨#[]⟩, .int .i64 0, .int .i64 0, .string ⟨#[]⟩, .slice none 0 0, .int .i64 1, .int .i64 0, .int .i64 0, .string ⟨#[]⟩, .int .i64 1, .int .i64 1, .string ⟨#[]⟩, .slice none 0 0, .int .i64 11, .int .i64 0, .int .i64 0, .string ⟨#[]⟩, .int .i64 0, .int .i64 0, .string ⟨#[]⟩, .slice none 0 0, .int .i64 12, .int .i64 1, .int .i64 0, .string ⟨#[]⟩, .int .i64 0, .int .i64 0, .string ⟨#[]⟩, .slice none 0 0, .int .i64 14, .int .i64 0, .int .i64 0, .string ⟨#[]⟩, .int .i64 0, .int .i64 0, .string ⟨#[]⟩, .slice none 0 0] 44))).heap.size (w.alloc (.cells #[.int .i64 10, .int .i64 6, .int .i64 0, .string ⟨#[]⟩, .int .i64 0, .int .i64 0, .string ⟨#[]⟩, .slice none 0 0, .int .i64 3, .int .i64 0, .int .i64 0, .string ⟨#[102]⟩, .int .i64 0, .int .i64 0, .string ⟨#[]⟩, .slice none 0 0, .int .i64 11, .int .i64 0, .int .i64 0, .string ⟨#[]⟩, .int .i64 0, .int .i64 0, .string ⟨#[]⟩, .slice none 0 0, .int .i64 1, .int .i64 0, .int .i64 0, .string ⟨#[]⟩, .int .i64 1, .int .i64 1, .string ⟨#[]⟩, .slice none 0 0, .int .i64 11, .int .i64 0, .int .i64 0, .string ⟨#[]⟩, .int .i64 0, .int .i64 0, .string ⟨#[]⟩, .slice none 0 0, .int .i64 12, .int .i64 1, .int .i64 0, .string ⟨#[]⟩, .int .i64 0, .int .i64 0, .string ⟨#[]⟩, .slice none 0 0, .int .i64 14, .int .i64 0, .int .i64 0, .string ⟨#[]⟩, .int .i64 0, .int .i64 0, .string ⟨#[]⟩, .slice none 0 0] 44)) w') (ht : Tab w') => text16_any aw7 w' (.slice (some ⟨w.heap.size, 0, none⟩) 7 7) (iin_lies (l := aw7) (hL1.below k hL1.lt) (fun _ _ h => h) (aw7_at _) (by decide)) ht)
  have hS6 := Lib.hid (fun (w' : World) (k : Below ((w.alloc (.cells #[.int .i64 10, .int .i64 6, .int .i64 0, .string ⟨#[]⟩, .int .i64 0, .int .i64 0, .string ⟨#[]⟩, .slice none 0 0, .int .i64 3, .int .i64 0, .int .i64 0, .string ⟨#[102]⟩, .int .i64 0, .int .i64 0, .string ⟨#[]⟩, .slice none 0 0, .int .i64 11, .int .i64 0, .int .i64 0, .string ⟨#[]⟩, .int .i64 0, .int .i64 0, .string ⟨#[]⟩, .slice none 0 0, .int .i64 1, .int .i64 0, .int .i64 0, .string ⟨#[]⟩, .int .i64 1, .int .i64 1, .string ⟨#[]⟩, .slice none 0 0, .int .i64 11, .int .i64 0, .int .i64 0, .string ⟨#[]⟩, .int .i64 0, .int .i64 0, .string ⟨#[]⟩, .slice none 0 0, .int .i64 12, .int .i64 1, .int .i64 0, .string ⟨#[]⟩, .int .i64 0, .int .i64 0, .string ⟨#[]⟩, .slice none 0 0, .int .i64 14, .int .i64 0, .int .i64 0, .string ⟨#[]⟩, .int .i64 0, .int .i64 0, .string ⟨#[]⟩, .slice none 0 0] 44))).heap.size (w.alloc (.cells #[.int .i64 10, .int .i64 6, .int .i64 0, .string ⟨#[]⟩, .int .i64 0, .int .i64 0, .string ⟨#[]⟩, .slice none 0 0, .int .i64 3, .int .i64 0, .int .i64 0, .string ⟨#[102]⟩, .int .i64 0, .int .i64 0, .string ⟨#[]⟩, .slice none 0 0, .int .i64 11, .int .i64 0, .int .i64 0, .string ⟨#[]⟩, .int .i64 0, .int .i64 0, .string ⟨#[]⟩, .slice none 0 0, .int .i64 1, .int .i64 0, .int .i64 0, .string ⟨#[]⟩, .int .i64 1, .int .i64 1, .string ⟨#[]⟩, .slice none 0 0, .int .i64 11, .int .i64 0, .int .i64 0, .string ⟨#[]⟩, .int .i64 0, .int .i64 0, .string ⟨#[]⟩, .slice none 0 0, .int .i64 12, .int .i64 1, .int .i64 0, .string ⟨#[]⟩, .int .i64 0, .int .i64 0, .string ⟨#[]⟩, .slice none 0 0, .int .i64 14, .int .i64 0, .int .i64 0, .string ⟨#[]⟩, .int .i64 0, .int .i64 0, .string ⟨#[]⟩, .slice none 0 0] 44)) w') => stacks_no aw6 w' (.slice (some ⟨w.heap.size, 0, none⟩) 6 7) (iin_lies (l := aw6) (hL1.below k hL1.lt) (fun i y hy => by
    have hi := (List.getElem?_eq_some_iff.1 hy).1
    rw [List.length_take] at hi
    rw [List.getElem?_take_of_lt (by omega)] at hy; exact hy) (aw6_at _) (by decide)) (fun h => by rw [aw6_rgt] at h; cases h.1))
  have hO := Lib.hid (fun (w' : World) (k : Below ((w.alloc (.cells #[.int .i64 10, .int .i64 6, .int .i64 0, .string ⟨#[]⟩, .int .i64 0, .int .i64 0, .string ⟨#[]⟩, .slice none 0 0, .int .i64 3, .int .i64 0, .int .i64 0, .string ⟨#[102]⟩, .int .i64 0, .int .i64 0, .string ⟨#[]⟩, .slice none 0 0, .int .i64 11, .int .i64 0, .int .i64 0, .string ⟨#[]⟩, .int .i64 0, .int .i64 0, .string ⟨#[]⟩, .slice none 0 0, .int .i64 1, .int .i64 0, .int .i64 0, .string ⟨#[]⟩, .int .i64 1, .int .i64 1, .string ⟨#[]⟩, .slice none 0 0, .int .i64 11, .int .i64 0, .int .i64 0, .string ⟨#[]⟩, .int .i64 0, .int .i64 0, .string ⟨#[]⟩, .slice none 0 0, .int .i64 12, .int .i64 1, .int .i64 0, .string ⟨#[]⟩, .int .i64 0, .int .i64 0, .string ⟨#[]⟩, .slice none 0 0, .int .i64 14, .int .i64 0, .int .i64 0, .string ⟨#[]⟩, .int .i64 0, .int .i64 0, .string ⟨#[]⟩, .slice none 0 0] 44))).heap.size (w.alloc (.cells #[.int .i64 10, .int .i64 6, .int .i64 0, .string ⟨#[]⟩, .int .i64 0, .int .i64 0, .string ⟨#[]⟩, .slice none 0 0, .int .i64 3, .int .i64 0, .int .i64 0, .string ⟨#[102]⟩, .int .i64 0, .int .i64 0, .string ⟨#[]⟩, .slice none 0 0, .int .i64 11, .int .i64 0, .int .i64 0, .string ⟨#[]⟩, .int .i64 0, .int .i64 0, .string ⟨#[]⟩, .slice none 0 0, .int .i64 1, .int .i64 0, .int .i64 0, .string ⟨#[]⟩, .int .i64 1, .int .i64 1, .string ⟨#[]⟩, .slice none 0 0, .int .i64 11, .int .i64 0, .int .i64 0, .string ⟨#[]⟩, .int .i64 0, .int .i64 0, .string ⟨#[]⟩, .slice none 0 0, .int .i64 12, .int .i64 1, .int .i64 0, .string ⟨#[]⟩, .int .i64 0, .int .i64 0, .string ⟨#[]⟩, .slice none 0 0, .int .i64 14, .int .i64 0, .int .i64 0, .string ⟨#[]⟩, .int .i64 0, .int .i64 0, .string ⟨#[]⟩, .slice none 0 0] 44)) w') => iown_any aw7 w' (.slice (some ⟨w.heap.size, 0, none⟩) 7 7) (iin_lies (l := aw7) (hL1.below k hL1.lt) (fun _ _ h => h) (aw7_at _) (by decide)) ⟨by decide, fun j x hx => by
    match j, hx with
    | 0, hx => cases hx; decide
    | 1, hx => cases hx; decide
    | 2, hx => cases hx; decide
    | 3, hx => cases hx; decide
    | 4, hx => cases hx; decide
    | 5, hx => cases hx; decide
    | 6, hx => cases hx; decide
    | j + 7, hx => cases hx⟩)
  rw [show cer (CD.rgt aw7) = .nilIface by rw [aw7_rgt]; rfl, aw7_rgt] at hX
  have hTb := Lib.hid (fun (w' : World) (k : Below w.heap.size w w') => hT.on k)
  have hk1 := Below.refl ((w.alloc (.cells #[.int .i64 10, .int .i64 6, .int .i64 0, .string ⟨#[]⟩, .int .i64 0, .int .i64 0, .string ⟨#[]⟩, .slice none 0 0, .int .i64 3, .int .i64 0, .int .i64 0, .string ⟨#[102]⟩, .int .i64 0, .int .i64 0, .string ⟨#[]⟩, .slice none 0 0, .int .i64 11, .int .i64 0, .int .i64 0, .string ⟨#[]⟩, .int .i64 0, .int .i64 0, .string ⟨#[]⟩, .slice none 0 0, .int .i64 1, .int .i64 0, .int .i64 0, .string ⟨#[]⟩, .int .i64 1, .int .i64 1, .string ⟨#[]⟩, .slice none 0 0, .int .i64 11, .int .i64 0, .int .i64 0, .string ⟨#[]⟩, .int .i64 0, .int .i64 0, .string ⟨#[]⟩, .slice none 0 0, .int .i64 12, .int .i64 1, .int .i64 0, .string ⟨#[]⟩, .int .i64 0, .int .i64 0, .string ⟨#[]⟩, .slice none 0 0, .int .i64 14, .int .i64 0, .int .i64 0, .string ⟨#[]⟩, .int .i64 0, .int .i64 0, .string ⟨#[]⟩, .slice none 0 0] 44))).heap.size (w.alloc (.cells #[.int .i64 10, .int .i64 6, .int .i64 0, .string ⟨#[]⟩, .int .i64 0, .int .i64 0, .string ⟨#[]⟩, .slice none 0 0, .int .i64 3, .int .i64 0, .int .i64 0, .string ⟨#[102]⟩, .int .i64 0, .int .i64 0, .string ⟨#[]⟩, .slice none 0 0, .int .i64 11, .int .i64 0, .int .i64 0, .string ⟨#[]⟩, .int .i64 0, .int .i64 0, .string ⟨#[]⟩, .slice none 0 0, .int .i64 1, .int .i64 0, .int .i64 0, .string ⟨#[]⟩, .int .i64 1, .int .i64 1, .string ⟨#[]⟩, .slice none 0 0, .int .i64 11, .int .i64 0, .int .i64 0, .string ⟨#[]⟩, .int .i64 0, .int .i64 0, .string ⟨#[]⟩, .slice none 0 0, .int .i64 12, .int .i64 1, .int .i64 0, .string ⟨#[]⟩, .int .i64 0, .int .i64 0, .string ⟨#[]⟩, .slice none 0 0, .int .i64 14, .int .i64 0, .int .i64 0, .string ⟨#[]⟩, .int .i64 0, .int .i64 0, .string ⟨#[]⟩, .slice none 0 0] 44))
  obtain ⟨s1, hs1⟩ : ∃ s1, ((w.alloc (.cells #[.int .i64 10, .int .i64 6, .int .i64 0, .string ⟨#[]⟩, .int .i64 0, .int .i64 0, .string ⟨#[]⟩, .slice none 0 0, .int .i64 3, .int .i64 0, .int .i64 0, .string ⟨#[102]⟩, .int .i64 0, .int .i64 0, .string ⟨#[]⟩, .slice none 0 0, .int .i64 11, .int .i64 0, .int .i64 0, .string ⟨#[]⟩, .int .i64 0, .int .i64 0, .string ⟨#[]⟩, .slice none 0 0, .int .i64 1, .int .i64 0, .int .i64 0, .string ⟨#[]⟩, .int .i64 1, .int .i64 1, .string ⟨#[]⟩, .slice none 0 0, .int .i64 11, .int .i64 0, .int .i64 0, .string ⟨#[]⟩, .int .i64 0, .int .i64 0, .string ⟨#[]⟩, .slice none 0 0, .int .i64 12, .int .i64 1, .int .i64 0, .string ⟨#[]⟩, .int .i64 0, .int .i64 0, .string ⟨#[]⟩, .slice none 0 0, .int .i64 14, .int .i64 0, .int .i64 0, .string ⟨#[]⟩, .int .i64 0, .int .i64 0, .string ⟨#[]⟩, .slice none 0 0] 44))).heap.size = s1 := ⟨_, rfl⟩
  clear hL1 hb1 hT
  have hat : awT.toList = [48, 58, 32, 102, 114, 97, 109, 101, 32, 54, 10, 49, 58, 32, 103, 108, 111, 98, 97, 108, 32, 102, 10, 50, 58, 32, 112, 117, 115, 104, 10, 51, 58, 32, 99, 111, 110, 115, 116, 32, 49, 10, 52, 58, 32, 112, 117, 115, 104, 10, 53, 58, 32, 99, 97, 108, 108, 32, 49, 10, 54, 58, 32, 114, 101, 116, 117, 114, 110, 10] := by rw [ByteArray.toList_eq]; rfl
  have st0 : True := trivial
  go_enter Tryd.func6, Tryd.ntmps6
  go_wp2_with (first
    | (clear st0
       go_at_call 8
       go_must (
         refine hA.out.mono ?_
         rintro e w2 ⟨b, rfl, hb0, hS, hq2⟩
         have hk2 := hk1.trans (Below.mono hq2 hk1.size)
         have hbw2 : Below w.heap.size w w2 := hb1'.out.trans (Below.mono hk2 hb1'.out.size)
         have hS2 := Lib.hid hS
         clear hS hq2
         have st1 : True := trivial))
    | (clear st1
       go_at_call 13
       go_must (
         refine (hX.out _ hk2 (hTb.out _ hbw2)).mono ?_
         rintro e w3 ⟨⟨X, rfl, hXl⟩, hq3⟩
         obtain rfl : X = awT := bytes_ext (by rw [hXl]; simp only [if_true]; exact aw7_text)
         have hk3 := hk2.trans (Below.mono hq3 hk2.size)
         have hbw3 : Below w.heap.size w w3 := hb1'.out.trans (Below.mono hk3 hb1'.out.size)
         have hS3 := Lib.hid (hS2.out.below hq3)
         clear hq3 hXl hS2 hk2 hbw2
         have st2 : True := trivial))
    | (clear st2
       go_at_call 8
       go_must (
         refine (hS6.out _ hk3).mono ?_
         rintro e w4 ⟨rfl, hq4⟩
         have hk4 := hk3.trans (Below.mono hq4 hk3.size)
         have hbw4 : Below w.heap.size w w4 := hb1'.out.trans (Below.mono hk4 hb1'.out.size)
         have hS4 := Lib.hid (hS3.out.below hq4)
         clear hq4 hS3 hk3 hbw3
         have st3 : True := trivial))
    | (clear st3
       go_at_call 9
       go_must (
         refine (hO.out _ hk4).mono ?_
         rintro e w5 ⟨v5, rfl, hI5, hq5⟩
         have hlo := hI5.1
         obtain ⟨gm, cm, rfl, m1, mf, hIm⟩ := awm_in (v := v5) ⟨fun g hg => ⟨trivial, (hI5.1 g hg).2⟩, by obtain ⟨-, cs, a1, a2⟩ := hI5; exact ⟨cs, a1, IAt.mono (fun g _ h => ⟨trivial, h.2⟩) a2⟩⟩
         have hgm : w4.heap.size ≤ gm := (hlo gm rfl).1
         have hq6 : Below w4.heap.size w4 (w5.setCell ⟨gm, 41, none⟩ (.int .i64 2)) := hq5.setCell (p := ⟨gm, 41, none⟩) hgm _
         have hk6 := hk4.trans (Below.mono hq6 hk4.size)
         have hS6b := Lib.hid (hS4.out.below hq6)
         have hSm := Lib.hid (stacks_no awm _ _ hIm (fun h => awm_no h.2))
         have hIm' := Lib.hid hIm
         clear hq5 hq6 hI5 hIm hlo hS4 hk4 hbw4
         have st4 : True := trivial))
    | (clear st4
       go_at_call 8
       go_must (
         refine hSm.out.mono ?_
         rintro e w7 ⟨rfl, hq7⟩
         have hk7 := hk6.trans (Below.mono hq7 hk6.size)
         have hbw7 : Below w.heap.size w w7 := hb1'.out.trans (Below.mono hk7 hb1'.out.size)
         have hS7 := hS6b.out.below hq7
         have hIm7 := Lib.hid (hIm'.out.below hq7)
         obtain ⟨u5, c5, p5, -⟩ := hS7.2 5 [0, 2] rfl
         obtain ⟨u6, c6, p6, -⟩ := hS7.2 6 [0] rfl
         obtain ⟨A5, n5, rfl⟩ := p5.read
         obtain ⟨A6, n6, rfl⟩ := p6.read
         have hbl := hS7.1
         have p5' := Lib.hid p5
         have p6' := Lib.hid p6
         have hS7' := Lib.hid hS7
         have hlit2 := Lib.hid (show PIn (w7.alloc (.cells #[.int .i64 0, .int .i64 2] 3)) (.slice (some ⟨w7.heap.size, 0, none⟩) 2 2) [0, 2] from pin_lit (l := [0, 2]) (Lies.made w7 3 #[.int .i64 0, .int .i64 2]) (by decide))
         clear p5 p6 hS7 hq7 hk6 hS6b hSm hIm'
         have st5 : True := trivial))
    | (clear st5
       go_at_call 12
       go_must (
         refine (rsame16_any [0, 2] [0, 2] _ _ _ (p5'.out.below ((Below.refl _ _).alloc (Nat.le_refl _) _)) hlit2.out).mono ?_
         rintro e w8 ⟨rfl, hq8⟩
         have hq9 : Below w7.heap.size w7 w8 := ((Below.refl _ _).alloc (Nat.le_refl _) _).trans (Below.mono hq8 (by simp))
         have hbw8 : Below w.heap.size w w8 := hbw7.trans (Below.mono hq9 hbw7.size)
         have hIm8 := Lib.hid (hIm7.out.below hq9)
         have c68 := (hq9.cell (p := ⟨b, 6, none⟩) hbl).trans c6
         have p68 := Lib.hid (p6'.out.below hq9)
         have hlit1 := Lib.hid (pin_one w8 0)
         clear hq8 hq9 c5 c6 hk7 hbw7
         have st6 : True := trivial))
    | (clear st6
       go_at_call 12
       go_must (
         refine (rsame16_any [0] [0] _ _ _ (p68.out.below ((Below.refl _ _).alloc (Nat.le_refl _) _)) hlit1.out).mono ?_
         rintro e w10 ⟨rfl, hq10⟩
         have hq11 : Below w8.heap.size w8 w10 := ((Below.refl _ _).alloc (Nat.le_refl _) _).trans (Below.mono hq10 (by simp))
         have hbw10 : Below w.heap.size w w10 := hbw8.trans (Below.mono hq11 hbw8.size)
         have hIm10 := Lib.hid (hIm8.out.below hq11)
         clear hq10 hq11 c68 hbw8
         have st7 : True := trivial))
    | (clear st7
       go_at_call 11
       go_must (
         refine (is_same 19 _).mono ?_
         rintro e w11 ⟨rfl, rfl⟩
         have st8 : True := trivial))
    | (clear st8
       go_at_call 11
       go_must (
         refine (is_same 19 _).mono ?_
         rintro e w12 ⟨rfl, rfl⟩
         have st9 : True := trivial))
    | (clear st9
       go_at_call 15
       go_must (
         refine (check16_any awm _ _ hIm10.out).mono ?_
         rintro e w13 ⟨rfl, hq13⟩
         rw [awm_rgt]
         unfold cer
         simp only [if_true]
         have hbw13 : Below w.heap.size w w13 := hbw10.trans (Below.mono hq13 hbw10.size)
         have st10 : True := trivial)))
  all_goals first
    | (go_ret; exact ⟨rfl, hbw13⟩)
    | (exfalso; rename_i hz; exact hz hat)
end Go.Proofs.YthfelkcomhflnaaDoor
