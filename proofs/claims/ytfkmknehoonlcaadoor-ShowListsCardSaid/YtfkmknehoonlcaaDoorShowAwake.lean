/- The law's awake; ShowChars and ShowTexts. -/
import Derived.Test.YtfkmknehoonlcaaDoorShowWrite
import Derived.Test.YtfkmknehoonlcaaDoorShowOwn
import Derived.Test.YtfkmknehoonlcaaDoorErrIs
namespace Go.Proofs.YtfkmknehoonlcaaDoor
open Go.ChangeShapes Go.WideShapes Go.ChangeAt Go.RowKit

def aw0 : RM.Dm := ⟨0, 0, [], .nil⟩
def aw1 : RM.Dm := ⟨7, 0, [], .cons 4 0 [97, 34, 98] .nil (.cons 3 32 [] .nil .nil)⟩
theorem aw0_ok : SM.okd aw0 = false := by decide +kernel
theorem aw1_ok : SM.okd aw1 = true := by decide +kernel
theorem aw1_f : SM.txt false aw1 = [40, 34, 97, 92, 34, 98, 34, 32, 46, 32, 35, 92, 115, 112, 97, 99, 101, 41] := by decide +kernel
theorem aw1_t : SM.txt true aw1 = [40, 97, 34, 98, 32, 46, 32, 32, 41] := by decide +kernel
theorem in_nil (w : World) (A : Option Addr) (c : Nat) : In w (.slice A 0 c) .nil := ⟨A, c, rfl, by simp [RM.Dl.len], 0, 0, fun h => absurd h (by simp [RM.Dl.len]), trivial⟩
theorem aw1_in (w w' : World) (h : Below (w.alloc (.cells #[.int .i64 4, .int .i64 0, .string ⟨#[97, 34, 98]⟩, .slice none 0 0, .int .i64 3, .int .i64 32, .string ⟨#[]⟩, .slice none 0 0] 24)).heap.size (w.alloc (.cells #[.int .i64 4, .int .i64 0, .string ⟨#[97, 34, 98]⟩, .slice none 0 0, .int .i64 3, .int .i64 32, .string ⟨#[]⟩, .slice none 0 0] 24)) w') : In w' (.slice (some ⟨w.heap.size, 0, none⟩) 2 2) aw1.is := by
  have hL := Lies.made w 24 #[.int .i64 4, .int .i64 0, .string ⟨#[97, 34, 98]⟩, .slice none 0 0, .int .i64 3, .int .i64 32, .string ⟨#[]⟩, .slice none 0 0]
  have : In (w.alloc (.cells #[.int .i64 4, .int .i64 0, .string ⟨#[97, 34, 98]⟩, .slice none 0 0, .int .i64 3, .int .i64 32, .string ⟨#[]⟩, .slice none 0 0] 24)) (.slice (some ⟨w.heap.size, 0, none⟩) 2 2) aw1.is :=
    ⟨_, _, rfl, by simp [aw1, RM.Dl.len], w.heap.size, 0, fun _ => rfl, hL.lt, hL.cell 0, hL.cell 1, hL.cell 2, ⟨none, 0, hL.cell 3, by simp [RM.Dl.len], 0, 0, fun h => absurd h (by simp [RM.Dl.len]), trivial⟩, hL.lt, hL.cell 4, hL.cell 5, hL.cell 6, ⟨none, 0, hL.cell 7, by simp [RM.Dl.len], 0, 0, fun h => absurd h (by simp [RM.Dl.len]), trivial⟩, trivial⟩
  exact this.below h
set_option maxRecDepth 100000 in
set_option maxHeartbeats 4000000 in
theorem awake09_any (w : World) (hT : Tab w) : Calls Tryd.prog 6 #[] w fun e w' => e = .returned (.bool true) ∧ Went w w' := by
  have hW0 := Lib.hid (fun (w' : World) (hb : Below w.heap.size w w') => by
    have h := write_any aw0 w' (.slice none 0 0) (in_nil _ _ _) (hT.on hb)
    rw [aw0_ok] at h
    exact h)
  have hW1 := Lib.hid (fun (w2 : World) (hb : Below w.heap.size w w2) (h2 : Below (w.alloc (.cells #[.int .i64 4, .int .i64 0, .string ⟨#[97, 34, 98]⟩, .slice none 0 0, .int .i64 3, .int .i64 32, .string ⟨#[]⟩, .slice none 0 0] 24)).heap.size (w.alloc (.cells #[.int .i64 4, .int .i64 0, .string ⟨#[97, 34, 98]⟩, .slice none 0 0, .int .i64 3, .int .i64 32, .string ⟨#[]⟩, .slice none 0 0] 24)) w2) => by
    have h := write_any aw1 w2 _ (aw1_in w w2 h2) (hT.on hb)
    rw [aw1_ok, if_pos rfl, aw1_f] at h
    exact h)
  have hW2 := Lib.hid (fun (w2 : World) (hb : Below w.heap.size w w2) (h2 : Below (w.alloc (.cells #[.int .i64 4, .int .i64 0, .string ⟨#[97, 34, 98]⟩, .slice none 0 0, .int .i64 3, .int .i64 32, .string ⟨#[]⟩, .slice none 0 0] 24)).heap.size (w.alloc (.cells #[.int .i64 4, .int .i64 0, .string ⟨#[97, 34, 98]⟩, .slice none 0 0, .int .i64 3, .int .i64 32, .string ⟨#[]⟩, .slice none 0 0] 24)) w2) => by
    have h := display_any aw1 w2 _ (aw1_in w w2 h2) (hT.on hb)
    rw [aw1_ok, if_pos rfl, aw1_t] at h
    exact h)
  have hC := Lib.hid (Char_any 65)
  unfold dtv aw0 chv at hW0
  unfold dtv aw1 chv at hW1 hW2
  have ba : Below (w.alloc (.cells #[.int .i64 4, .int .i64 0, .string ⟨#[97, 34, 98]⟩, .slice none 0 0, .int .i64 3, .int .i64 32, .string ⟨#[]⟩, .slice none 0 0] 24)).heap.size (w.alloc (.cells #[.int .i64 4, .int .i64 0, .string ⟨#[97, 34, 98]⟩, .slice none 0 0, .int .i64 3, .int .i64 32, .string ⟨#[]⟩, .slice none 0 0] 24)) ((w.alloc (.cells #[.int .i64 4, .int .i64 0, .string ⟨#[97, 34, 98]⟩, .slice none 0 0, .int .i64 3, .int .i64 32, .string ⟨#[]⟩, .slice none 0 0] 24)).alloc (.cells #[.int .i64 7, .int .i64 0, .string ⟨#[]⟩, .slice (some ⟨w.heap.size, 0, none⟩) 2 2] 24)) := (Below.refl _ _).alloc (Nat.le_refl _) _
  have b0 : Below w.heap.size w (w.alloc (.cells #[.int .i64 4, .int .i64 0, .string ⟨#[97, 34, 98]⟩, .slice none 0 0, .int .i64 3, .int .i64 32, .string ⟨#[]⟩, .slice none 0 0] 24)) := went_alloc _ _
  have hL : Lies ((w.alloc (.cells #[.int .i64 4, .int .i64 0, .string ⟨#[97, 34, 98]⟩, .slice none 0 0, .int .i64 3, .int .i64 32, .string ⟨#[]⟩, .slice none 0 0] 24)).alloc (.cells #[.int .i64 7, .int .i64 0, .string ⟨#[]⟩, .slice (some ⟨w.heap.size, 0, none⟩) 2 2] 24)) (w.heap.size + 1) 24 [.int .i64 7, .int .i64 0, .string ⟨#[]⟩, .slice (some ⟨w.heap.size, 0, none⟩) 2 2] := by
    have := Lies.made (w.alloc (.cells #[.int .i64 4, .int .i64 0, .string ⟨#[97, 34, 98]⟩, .slice none 0 0, .int .i64 3, .int .i64 32, .string ⟨#[]⟩, .slice none 0 0] 24)) 24 #[.int .i64 7, .int .i64 0, .string ⟨#[]⟩, .slice (some ⟨w.heap.size, 0, none⟩) 2 2]
    rwa [show (w.alloc (.cells #[.int .i64 4, .int .i64 0, .string ⟨#[97, 34, 98]⟩, .slice none 0 0, .int .i64 3, .int .i64 32, .string ⟨#[]⟩, .slice none 0 0] 24)).heap.size = w.heap.size + 1 by simp] at this
  have bb : Below w.heap.size w ((w.alloc (.cells #[.int .i64 4, .int .i64 0, .string ⟨#[97, 34, 98]⟩, .slice none 0 0, .int .i64 3, .int .i64 32, .string ⟨#[]⟩, .slice none 0 0] 24)).alloc (.cells #[.int .i64 7, .int .i64 0, .string ⟨#[]⟩, .slice (some ⟨w.heap.size, 0, none⟩) 2 2] 24)) := b0.trans (ba.mono b0.size)
  go_enter Tryd.func6, Tryd.ntmps6
  go_wp2_with (first
    | (go_at_call 8
       with_reducible refine (hW1.out _ bb ba).mono ?_
       rintro e w5 ⟨rfl, hb5⟩
       have hM5 := hL.below hb5 hL.lt
       have c5 : Below w.heap.size w w5 := bb.trans (hb5.mono bb.size)
       have d5 : Below (w.alloc (.cells #[.int .i64 4, .int .i64 0, .string ⟨#[97, 34, 98]⟩, .slice none 0 0, .int .i64 3, .int .i64 32, .string ⟨#[]⟩, .slice none 0 0] 24)).heap.size (w.alloc (.cells #[.int .i64 4, .int .i64 0, .string ⟨#[97, 34, 98]⟩, .slice none 0 0, .int .i64 3, .int .i64 32, .string ⟨#[]⟩, .slice none 0 0] 24)) w5 := ba.trans (hb5.mono ba.size)
       have z0 := hM5.cell 0
       have z1 := hM5.cell 1
       have z2 := hM5.cell 2
       have z3 := hM5.cell 3
       simp only [List.getElem?_cons_succ, List.getElem?_cons_zero] at z0 z1 z2 z3
       clear hb5)
    | (go_at_call 10
       refine (hW2.out _ c5 d5).mono ?_
       rintro e w6 ⟨rfl, hb6⟩
       have c6 : Below w.heap.size w w6 := c5.trans (hb6.mono c5.size)
       clear hb6)
    | (go_at_call 8
       with_reducible refine (hW0.out _ c6).mono ?_
       rintro e w7 ⟨rfl, hb7⟩
       have c7 : Below w.heap.size w w7 := c6.trans (hb7.mono c6.size)
       clear hb7)
    | (go_at_call 12; refine (is_same _ _).mono ?_; rintro e w8 ⟨rfl, rfl⟩)
    | (go_at_call 14; refine (hC.out _).mono ?_; rintro e w9 ⟨rfl, hb9⟩))
  go_ret
  exact ⟨rfl, c7.trans (hb9.mono c7.size)⟩
theorem showChars_walk (c : Int) (w : World) (hT : Tab w) : Calls Tryd.prog 4 #[.int .i64 c] w fun e w' => e = .returned (.bool true) ∧ Went w w' := by
  have hA := Lib.hid (awake09_any w hT)
  have hC := Lib.hid (Char_any c)
  have hR := Lib.hid (rChar_any c)
  obtain ⟨t, ht⟩ : ∃ t : ByteArray, ⟨(SM.chr c).toArray⟩ = t := ⟨_, rfl⟩
  rw [ht] at hC hR
  clear ht
  go_enter Tryd.func4, Tryd.ntmps4
  go_wp2_with (first
    | (go_at_call 6; refine hA.out.mono ?_; rintro e w5 ⟨rfl, hb5⟩)
    | (go_at_call 14; refine (hC.out _).mono ?_; rintro e w6 ⟨rfl, hb6⟩)
    | (go_at_call 15; refine (hR.out _).mono ?_; rintro e w7 ⟨rfl, hb7⟩))
  go_ret
  exact ⟨ret_b (by simp), hb5.trans (hb6.trans hb7)⟩
end Go.Proofs.YtfkmknehoonlcaaDoor
