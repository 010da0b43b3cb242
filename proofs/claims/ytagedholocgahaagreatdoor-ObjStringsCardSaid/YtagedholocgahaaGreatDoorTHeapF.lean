/- A task is scanned, or looked at. -/
import Derived.Test.YtagedholocgahaaGreatDoorTHeapE
import Derived.Test.YtagedholocgahaaGreatDoorTInvF
namespace Go.Proofs.YtagedholocgahaaGreatDoor
open Go.ChangeShapes Go.WideShapes Go.ChangeAt Go.RowKit

section
variable {B : Int} {G : Geo} {H : Hp} {R : Nat → List Int} {q p b : Nat}

theorem namesWhite_any (i : Inv B G H R) (v : Int) (h0 : 0 ≤ v) (h1 : v < 18446744073709551616) (w : World) (h : Tr w q p b G H) :
    Calls Tryz.prog 119 #[.pointer (some ⟨q, 0, none⟩), .int .u64 v] w fun e w' => e = .returned (.bool (H.namesWhite G v)) ∧ Tr w' q p b G H ∧ Turns (Own3 q p b) w w' := by
  have PP := Lib.hid (place_any i.ok v h0 h1 w h)
  have TT := Lib.hid (fun k => h.drewN k)
  cases hp : (G.plc v).2
  · have e : H.namesWhite G v = false := by rw [Hp.namesWhite, hp]; rfl
    rw [e]
    rw [hp] at PP
    clear hp e h i
    generalize (G.plc v).1 = x at *
    go_enter Tryz.func119, Tryz.ntmps119
    go_wp2_with (go_at_call 103; refine PP.out.mono ?_; rintro e w' ⟨rfl, k, rfl⟩)
    go_ret
    exact ⟨rfl, TT.out k, own_drewN _ _⟩
  · have hC := (plc_cell i.ok h0 h1 hp).1
    have e : H.namesWhite G v = H.isWhite (gv H.ws (G.plc v).1) := by rw [Hp.namesWhite, hp]; rfl
    rw [e]
    rw [hp] at PP
    have hr := i.wrd (G.plc v).1
    have MM := Lib.hid (fun w1 (h1 : Tr w1 q p b G H) => mark_any (G.plc v).1 w1 h1 (i.into hC))
    have WW := Lib.hid (fun w1 (h1 : Tr w1 q p b G H) => isWhite_any (gv H.ws (G.plc v).1) hr.1 hr.2 w1 h1 i.inTime)
    clear h i hp e hC hr
    generalize H.isWhite (gv H.ws (G.plc v).1) = r at *
    generalize gv H.ws (G.plc v).1 = m at *
    generalize (G.plc v).1 = x at *
    go_enter Tryz.func119, Tryz.ntmps119
    go_wp2_with (first
      | (go_at_call 103; refine PP.out.mono ?_; rintro e w' ⟨rfl, k, rfl⟩)
      | (go_at_call 99; refine (MM.out _ (TT.out k)).mono ?_; rintro e w2 ⟨rfl, hs2, ht2⟩)
      | (go_at_call 104; refine (WW.out _ hs2).mono ?_; rintro e w' ⟨rfl, k3, rfl⟩))
    go_ret
    exact ⟨rfl, hs2.drewN k3, ((own_drewN _ _).trans (own_of_p ht2)).drewN k3⟩

theorem scan_weak (i : Inv B G H R) (x : Int) (hx : x ∈ R 12) (ht : mtask (gv H.ws x) = 1) (hf : mform (gv H.ws x) = 3) (w : World) (h : Tr w q p b G H) :
    Calls Tryz.prog 101 #[.pointer (some ⟨q, 0, none⟩), .int .i64 x, .int .u64 (gv H.ws x)] w fun e w' => e = .returned (.tuple #[]) ∧ Tr w' q p b G (H.scan G x (gv H.ws x)) ∧ Turns (Own3 q p b) w w' := by
  have hC := i.rg.place 12 (by omega) x hx
  have hr := i.wrd x
  obtain ⟨-, -, hq⟩ := inv_rest i hx ht hf
  have FF := Lib.hid (fun w => hf ▸ form_any (gv H.ws x) hr.1 hr.2 w)
  have c6 : w.cell? ⟨q, 18, none⟩ = some (.int .i64 H.wai) := h.here.cell 18
  have f6 := h.here.free 18
  have S6 := h.set_at (H' := { H with wai := H.wai + 1 }) 18 (.int .i64 (H.wai + 1)) rfl rfl
  have t6 := own_set (q := q) (p := p) (b := b) w 18 (.int .i64 (H.wai + 1))
  have hwai : 0 ≤ H.wai ∧ H.wai ≤ 1048576 := by
    obtain ⟨g, l, e, -, -, hl, -⟩ := i.tasks
    have := ring_len i (k := 12) (by omega)
    rw [e, List.length_append] at this
    omega
  obtain ⟨w0, w1⟩ := hwai
  have SM := Lib.hid (fun w1 (h1 : Tr w1 q p b G { H with wai := H.wai + 1 }) => setMark_any x (gv H.ws x) 2 w1 h1 (i.into hC) hr.1 hr.2 (by omega) (by omega) (show ({ H with wai := H.wai + 1 } : Hp).inTime from i.inTime))
  have WT := Lib.hid (fun w1 (h1 : Tr w1 q p b G (({ H with wai := H.wai + 1 } : Hp).setMark x (gv H.ws x) 2)) => wait_any x w1 h1 hq)
  have E : Hid (H.scan G x (gv H.ws x) = (({ H with wai := H.wai + 1 } : Hp).setMark x (gv H.ws x) 2).wait x) := by
    unfold Hid
    rw [Hp.scan, if_pos hf]
  rw [E.out]
  clear E h i hC hr hq hf ht
  generalize (({ H with wai := H.wai + 1 } : Hp).setMark x (gv H.ws x) 2) = H2 at *
  generalize gv H.ws x = m at *
  have S6H := Lib.hid S6
  clear S6
  go_enter Tryz.func101, Tryz.ntmps101
  go_wp2_with (first
    | (go_at_call 58; refine (FF.out _).mono ?_; rintro e w' ⟨rfl, rfl⟩)
    | (go_at_call 85; refine (SM.out _ S6H.out).mono ?_; rintro e w2 ⟨rfl, hs2, ht2⟩)
    | (go_at_call 117; refine (WT.out _ hs2).mono ?_; rintro e w3 ⟨rfl, hs3, ht3⟩))
  go_end0
  exact ⟨rfl, hs3, t6.trans ((own_of_pb ht2).trans (own_of_pb ht3))⟩

theorem scan_raw (i : Inv B G H R) (x : Int) (hx : x ∈ R 12) (ht : mtask (gv H.ws x) = 1) (hf : mform (gv H.ws x) = 2) (w : World) (h : Tr w q p b G H) :
    Calls Tryz.prog 101 #[.pointer (some ⟨q, 0, none⟩), .int .i64 x, .int .u64 (gv H.ws x)] w fun e w' => e = .returned (.tuple #[]) ∧ Tr w' q p b G (H.scan G x (gv H.ws x)) ∧ Turns (Own3 q p b) w w' := by
  have hC := i.rg.place 12 (by omega) x hx
  have hr := i.wrd x
  have hbd := i.bnd
  obtain ⟨-, -, hq⟩ := inv_finish i hx (x := H.wai) (y := H.mis) (by rw [if_neg (by omega)]) (by omega)
  have FF := Lib.hid (fun w => hf ▸ form_any (gv H.ws x) hr.1 hr.2 w)
  have FI := Lib.hid (finish_any x (gv H.ws x) w h (i.into hC) hr.1 hr.2 i.inTime hq)
  have E : Hid (H.scan G x (gv H.ws x) = H.finish x (gv H.ws x)) := by
    unfold Hid
    rw [Hp.scan, if_neg (by omega), if_neg (by omega), if_pos hf]
  rw [E.out]
  clear E h i hC hr hq hf ht hbd
  generalize gv H.ws x = m at *
  go_enter Tryz.func101, Tryz.ntmps101
  go_wp2_with (first
    | (go_at_call 58; refine (FF.out _).mono ?_; rintro e w' ⟨rfl, rfl⟩)
    | (go_at_call 118; refine FI.out.mono ?_; rintro e w2 ⟨rfl, hs2, ht2⟩))
  go_end0
  exact ⟨rfl, hs2, own_of_pb ht2⟩

theorem scan_plain (i : Inv B G H R) (x : Int) (hx : x ∈ R 12) (ht : mtask (gv H.ws x) = 1) (hf : mform (gv H.ws x) = 1) (w : World) (h : Tr w q p b G H) :
    Calls Tryz.prog 101 #[.pointer (some ⟨q, 0, none⟩), .int .i64 x, .int .u64 (gv H.ws x)] w fun e w' => e = .returned (.tuple #[]) ∧ Tr w' q p b G (H.scan G x (gv H.ws x)) ∧ Turns (Own3 q p b) w w' := by
  have hC := i.rg.place 12 (by omega) x hx
  have hr := i.wrd x
  have hsz := msize_bd (gv H.ws x)
  obtain ⟨n, hn⟩ := Int.eq_ofNat_of_zero_le hsz.1
  have FF := Lib.hid (fun w => hf ▸ form_any (gv H.ws x) hr.1 hr.2 w)
  have ZZ := Lib.hid (fun w => hn ▸ size_any (gv H.ws x) hr.1 hr.2 w)
  have hin : ∀ j, j < n → inside H.ws.length (x + 3 + (j : Int)) = true := fun j hj => (i.fields (k := 12) (by omega) (by omega) hx (j := j) (by omega) (by omega)).1
  have GG := Lib.hid (fun (j : Nat) (hj : j < n) w1 (h1 : Tr w1 q p b G (H.shadeUp G x j)) => hget_any (x + 3 + (j : Int)) w1 h1 (by
    have := (inv_shadeUp i hx j).2.1.len
    rw [this]
    exact hin j hj))
  have SS := Lib.hid (fun (j : Nat) w1 (h1 : Tr w1 q p b G (H.shadeUp G x j)) =>
    shade_any (inv_shadeUp i hx j).1 (gv (H.shadeUp G x j).ws (x + 3 + (j : Int))) ((inv_shadeUp i hx j).1.wrd _).1 ((inv_shadeUp i hx j).1.wrd _).2 w1 h1)
  have SU : Hid (∀ j : Nat, H.shadeUp G x (j + 1) = (H.shadeUp G x j).shade G (gv (H.shadeUp G x j).ws (x + 3 + (j : Int)))) := fun j => rfl
  have E : Hid (H.scan G x (gv H.ws x) = (H.shadeUp G x n).finish x (gv H.ws x)) := by
    unfold Hid
    rw [Hp.scan, if_neg (by omega), if_pos hf, hn, Int.toNat_natCast]
  have FI := Lib.hid (fun w1 (h1 : Tr w1 q p b G (H.shadeUp G x n)) => by
    obtain ⟨i1, d1, b1, m1, -, -, r3, -⟩ := inv_shadeUp i hx n
    have hbd := i1.bnd
    have hC1 := i1.rg.place 12 (by omega) x b1
    obtain ⟨-, -, hq⟩ := inv_finish i1 b1 (x := (H.shadeUp G x n).wai) (y := (H.shadeUp G x n).mis) (by rw [m1, if_neg (by omega)]) (by omega)
    rw [m1] at hq
    exact finish_any x (gv H.ws x) w1 h1 (i1.into hC1) hr.1 hr.2 i1.inTime hq)
  have hx51 := (Geo.extent i.ok hC).1
  have hxtop := (Geo.extent i.ok hC).2
  have hl := ln_lo (G.cls x)
  have htop := i.ok.lines
  have hx0 : 51 ≤ x ∧ x ≤ 1048576 := by omega
  obtain ⟨x0, x1⟩ := hx0
  have hn127 : n ≤ 127 := by omega
  rw [E.out]
  clear E hsz hn hr hC hf ht hin i hx51 hxtop hl htop hx
  generalize gv H.ws x = m at *
  have T0 : Tr w q p b G (H.shadeUp G x 0) := h
  clear h
  generalize hS : H.shadeUp G x = S at *
  clear hS
  go_enter Tryz.func101, Tryz.ntmps101
  go_wp2_with (first
    | (go_at_call 58; refine (FF.out _).mono ?_; rintro e w' ⟨rfl, rfl⟩)
    | (go_at_call 91; refine (ZZ.out _).mono ?_; rintro e w' ⟨rfl, rfl⟩))
  go_loopw [31] (fun c wr => ∃ j : Nat, j ≤ n ∧ c = .int .i64 j ∧ Tr wr q p b G (S j) ∧ Turns (Own3 q p b) w wr) (fun c _ => n - (intOf c).toNat)
  case atStart => exact ⟨0, by omega, rfl, T0, Turns.refl _ _⟩
  case round =>
    obtain ⟨j, hj, rfl, hs, hts⟩ := hrel
    by_cases hjn : j < n
    · have GJ := Lib.hid (GG.out j hjn)
      have SJ := Lib.hid (SS.out j)
      have UJ : Hid (S (j + 1) = (S j).shade G (gv (S j).ws (x + 3 + (j : Int)))) := SU.out j
      generalize gv (S j).ws (x + 3 + (j : Int)) = f at *
      go_wp2_with (first
        | (go_at_call 57; refine (GJ.out _ hs).mono ?_; rintro e w2 ⟨rfl, hs2, ht2⟩)
        | (go_at_call 59; refine (SJ.out _ hs2).mono ?_; rintro e w3 ⟨rfl, hs3, ht3⟩))
      go_roundw
      case rel => exact ⟨j + 1, by omega, by go_num, by rw [UJ.out]; exact hs3, hts.trans ((own_of_p ht2).trans ht3)⟩
      case measure => simp [intOf]; omega
    · obtain rfl : j = n := by omega
      go_wp2_with (go_at_call 118; refine (FI.out _ hs).mono ?_; rintro e w2 ⟨rfl, hs2, ht2⟩)
      go_end0
      exact ⟨rfl, hs2, hts.trans (own_of_pb ht2)⟩

theorem scan_any (i : Inv B G H R) (x : Int) (hx : x ∈ R 12) (ht : mtask (gv H.ws x) = 1) (w : World) (h : Tr w q p b G H) :
    Calls Tryz.prog 101 #[.pointer (some ⟨q, 0, none⟩), .int .i64 x, .int .u64 (gv H.ws x)] w fun e w' => e = .returned (.tuple #[]) ∧ Tr w' q p b G (H.scan G x (gv H.ws x)) ∧ Turns (Own3 q p b) w w' := by
  have hf := i.shp 12 x (by omega) (by omega) hx
  by_cases h3 : mform (gv H.ws x) = 3
  · exact scan_weak i x hx ht h3 w h
  · by_cases h1 : mform (gv H.ws x) = 1
    · exact scan_plain i x hx ht h1 w h
    · exact scan_raw i x hx ht (by omega) w h
end
end Go.Proofs.YtagedholocgahaaGreatDoor
