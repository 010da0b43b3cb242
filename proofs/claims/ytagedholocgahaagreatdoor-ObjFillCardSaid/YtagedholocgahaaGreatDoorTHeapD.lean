/- Marks set, cells moved, shaded. -/
import Derived.Test.YtagedholocgahaaGreatDoorTHeapC
import Derived.Test.YtagedholocgahaaGreatDoorTInvD
import Derived.Deep.RegionHeld3
import Derived.Deep.RegionWith
namespace Go.Proofs.YtagedholocgahaaGreatDoor
open Go.ChangeShapes Go.WideShapes Go.ChangeAt Go.RowKit

section
variable {B : Int} {G : Geo} {H : Hp} {R : Nat → List Int} {q p b : Nat}

theorem Inv.inTime (i : Inv B G H R) : H.inTime := by
  have := i.bnd
  exact ⟨by omega, by omega⟩
/-- only the heap's own blocks turn -/
theorem own_of_p {w w' : World} (h : Turns (· = p) w w') : Turns (Own3 q p b) w w' := h.mono fun _ _ e => .inr (.inl e)
theorem own_of_pb {w w' : World} (h : Turns (fun k => k = p ∨ k = b) w w') : Turns (Own3 q p b) w w' := h.mono fun _ _ e => .inr e
theorem own_drewN (w : World) (n : Nat) : Turns (Own3 q p b) w (w.drewN n) := (Turns.refl _ _).drewN n
theorem own_set (w : World) (j : Nat) (v : Value) : Turns (Own3 q p b) w (w.setCell ⟨q, j, none⟩ v) := (Turns.refl _ _).setCell (fun _ => .inl rfl) v

theorem isBlack_any (m : Int) (h0 : 0 ≤ m) (h1 : m < 18446744073709551616) (w : World) (h : Tr w q p b G H) (hc : H.inTime) :
    Calls Tryz.prog 115 #[.pointer (some ⟨q, 0, none⟩), .int .u64 m] w fun e w' => e = .returned (.bool (H.isBlack m)) ∧ w = w' := by
  have NN := Lib.hid (next_any w h hc)
  have LL := Lib.hid (last_any m h0 h1 w)
  have TT := Lib.hid (task_any m h0 h1 w)
  have E : Hid (H.isBlack m = (mlast m == H.next && mtask m == 0)) := rfl
  have hb : (mlast m == H.next) = true ∨ (mlast m == H.next) = false := by cases (mlast m == H.next) <;> simp
  clear h h0 h1 hc
  generalize H.isBlack m = r at *
  generalize mlast m = l at *
  generalize mtask m = t at *
  generalize H.next = n at *
  rcases hb with hb | hb
  · have hr : r = (t == 0) := by rw [E.out, hb]; rfl
    subst hr
    go_enter Tryz.func115, Tryz.ntmps115
    go_wp2_with (first | (go_at_call 121; refine LL.out.mono ?_; rintro e w' ⟨rfl, rfl⟩) | (go_at_call 113; refine NN.out.mono ?_; rintro e w' ⟨rfl, rfl⟩) | (go_at_call 100; refine TT.out.mono ?_; rintro e w' ⟨rfl, rfl⟩))
    go_ret
    exact ⟨rfl, rfl⟩
  · have hr : r = false := by rw [E.out, hb]; rfl
    subst hr
    go_enter Tryz.func115, Tryz.ntmps115
    go_wp2_with (first | (go_at_call 121; refine LL.out.mono ?_; rintro e w' ⟨rfl, rfl⟩) | (go_at_call 113; refine NN.out.mono ?_; rintro e w' ⟨rfl, rfl⟩) | (go_at_call 100; refine TT.out.mono ?_; rintro e w' ⟨rfl, rfl⟩))
    go_ret
    exact ⟨rfl, rfl⟩

theorem setMark_any (x m t : Int) (w : World) (h : Tr w q p b G H) (hi : inside H.ws.length x = true) (m0 : 0 ≤ m) (m1 : m < 18446744073709551616) (t0 : 0 ≤ t) (t1 : t < 4) (hc : H.inTime) :
    Calls Tryz.prog 85 #[.pointer (some ⟨q, 0, none⟩), .int .i64 x, .int .u64 m, .int .i64 t] w fun e w' => e = .returned (.tuple #[]) ∧ Tr w' q p b G (H.setMark x m t) ∧ Turns (fun k => k = p ∨ k = b) w w' := by
  obtain ⟨n0, n1⟩ := hc.next
  have NN := Lib.hid (next_any w h hc)
  have WW := Lib.hid (with_any m t H.next m0 m1 t0 t1 n0 (by omega) w)
  have SS := Lib.hid (hset_any x (mwith m t H.next) w h hi)
  have E : Hid (({ H with ws := sv H.ws x (mwith m t H.next) } : Hp) = H.setMark x m t) := rfl
  clear h hi m0 m1 t0 t1 hc n0 n1
  generalize mwith m t H.next = y at *
  generalize H.next = n at *
  go_enter Tryz.func85, Tryz.ntmps85
  go_wp2_with (first | (go_at_call 113; refine NN.out.mono ?_; rintro e w' ⟨rfl, rfl⟩) | (go_at_call 112; refine WW.out.mono ?_; rintro e w' ⟨rfl, rfl⟩) | (go_at_call 96; refine SS.out.mono ?_; rintro e w1 ⟨rfl, hs1, ht1⟩))
  go_end0
  exact ⟨rfl, by rw [← E.out]; exact hs1, ht1⟩

theorem move_any (x at_ : Int) (w : World) (h : Tr w q p b G H) (k : MoveOk H.ws x at_) :
    Calls Tryz.prog 84 #[.pointer (some ⟨q, 0, none⟩), .int .i64 x, .int .i64 at_] w fun e w' => e = .returned (.tuple #[]) ∧ Tr w' q p b G (H.move x at_) ∧ Turns (fun k => k = p ∨ k = b) w w' := by
  have c0 := h.ptr
  have hl : (rem H.ws x).length = H.ws.length := rem_length _ _
  have RR := Lib.hid (ring_Remove p b H.ws x w h.words k.short k.pb k.p1 k.p2)
  have II := Lib.hid (fun w1 h1 => ring_Insert p b (rem H.ws x) at_ x w1 h1 (by rw [hl]; exact k.short) (by rw [hl]; exact k.pa) (by rw [hl]; exact k.pb) (by rw [hl]; exact k.px))
  have T1 := Lib.hid (fun w1 (k1 : Turns (fun k => k = p ∨ k = b) w w1) s1 => (h.stored (ws := rem H.ws x) k1 s1).ptr)
  have T2 := Lib.hid (fun w1 (k1 : Turns (fun k => k = p ∨ k = b) w w1) s1 => (h.stored (ws := ins (rem H.ws x) at_ x) k1 s1))
  have E : Hid (({ H with ws := ins (rem H.ws x) at_ x } : Hp) = H.move x at_) := rfl
  clear h k hl
  go_enter Tryz.func84, Tryz.ntmps84
  go_wp2_with (first
    | (go_at_call 111
       refine RR.out.mono ?_
       rintro e w1 ⟨rfl, hs1, ht1⟩
       have c1 := T1.out w1 ht1 hs1)
    | (go_at_call 109
       refine (II.out _ hs1).mono ?_
       rintro e w2 ⟨rfl, hs2, ht2⟩))
  go_end0
  exact ⟨rfl, by rw [← E.out]; exact T2.out _ (ht1.trans ht2) hs2, ht1.trans ht2⟩

theorem wait_any (x : Int) (w : World) (h : Tr w q p b G H) (k : WaitOk H.ws x) :
    Calls Tryz.prog 117 #[.pointer (some ⟨q, 0, none⟩), .int .i64 x] w fun e w' => e = .returned (.tuple #[]) ∧ Tr w' q p b G (H.wait x) ∧ Turns (fun k => k = p ∨ k = b) w w' := by
  have c0 := h.ptr
  have hl : (rem H.ws x).length = H.ws.length := rem_length _ _
  have RR := Lib.hid (ring_Remove p b H.ws x w h.words k.short k.pb k.p1 k.p2)
  have AA := Lib.hid (fun w1 h1 => ring_Ahead p b (rem H.ws x) (hd 12) w1 h1 (by rw [hl]; exact k.short) (by rw [hl]; exact k.ph) (by rw [hl]; exact k.pl))
  have II := Lib.hid (fun w1 h1 => ring_Insert p b (rem H.ws x) (gv (rem H.ws x) (hd 12 + 1)) x w1 h1 (by rw [hl]; exact k.short) (by rw [hl]; exact k.pl) (by rw [hl]; exact k.pb) (by rw [hl]; exact k.px))
  have T1 := Lib.hid (fun w1 (k1 : Turns (fun k => k = p ∨ k = b) w w1) s1 => (h.stored (ws := rem H.ws x) k1 s1).ptr)
  have T2 := Lib.hid (fun w1 (k1 : Turns (fun k => k = p ∨ k = b) w w1) s1 => (h.stored (ws := ins (rem H.ws x) (gv (rem H.ws x) (hd 12 + 1)) x) k1 s1))
  have E : Hid (({ H with ws := ins (rem H.ws x) (gv (rem H.ws x) (hd 12 + 1)) x } : Hp) = H.wait x) := rfl
  have HH := Lib.hid (fun w => head_any 12 (by omega) w)
  clear h k hl
  generalize gv (rem H.ws x) (hd 12 + 1) = y at *
  generalize ins (rem H.ws x) y x = zs at *
  generalize rem H.ws x = ys at *
  generalize hd 12 = d at *
  go_enter Tryz.func117, Tryz.ntmps117
  go_wp2_with (
    go_at_call 111
    refine RR.out.mono ?_
    rintro e w1 ⟨rfl, hs1, ht1⟩
    have c1 := T1.out w1 ht1 hs1)
  go_region_held3 (fun w' => w'.cell? ⟨q, 0, none⟩ = some (.pointer (some ⟨p, 0, none⟩))) (first | go_keep | exact c2)
    (first
      | (go_at_call 83
         refine (HH.out _).mono ?_
         rintro e w2 ⟨rfl, rfl⟩)
      | (go_at_call 126
         refine (AA.out _ hs1.drew).mono ?_
         rintro e w2 ⟨rfl, hs2, ht2⟩
         have t2 := ht1.trans (Turns.of_drew (ht2.mono fun _ _ e => .inl e))
         have c2 := T1.out w2 t2 hs2))
  go_wp2_with (
    go_at_call 109
    refine (II.out _ hs2).mono ?_
    rintro e w3 ⟨rfl, hs3, ht3⟩)
  go_end0
  exact ⟨rfl, by rw [← E.out]; exact T2.out _ (t2.trans ht3) hs3, t2.trans ht3⟩
end
end Go.Proofs.YtagedholocgahaaGreatDoor
