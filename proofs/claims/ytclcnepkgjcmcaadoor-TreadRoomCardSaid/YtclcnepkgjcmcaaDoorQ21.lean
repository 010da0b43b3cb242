/- A weak cell is looked at. -/
import Derived.Test.YtclcnepkgjcmcaaDoorQ20
namespace Go.Proofs.YtclcnepkgjcmcaaDoor
open Go.ChangeShapes Go.WideShapes Go.ChangeAt Go.RowKit

section
variable {B : Int} {G : Geo} {H : Hp} {R : Nat → List Int} {q p b : Nat}

theorem Inv.waits (i : Inv B G H R) : 0 ≤ H.wai ∧ H.wai ≤ 1048576 := by
  obtain ⟨g, l, e, -, -, hl, -⟩ := i.tasks
  have := ring_len i (k := 12) (by omega)
  rw [e, List.length_append] at this
  omega

theorem look_live (i : Inv B G H R) (hB : B + 1 ≤ 1000000000) (x : Int) (hx : x ∈ R 12) (ht : mtask (gv H.ws x) = 2) (hn : H.namesWhite G (gv H.ws (x + 3)) = false) (w : World) (h : Tr w q p b G H) :
    Calls Tryd.prog 74 #[.pointer (some ⟨q, 0, none⟩), .int .i64 x, .int .u64 (gv H.ws x)] w fun e w' => e = .returned (.tuple #[]) ∧ Tr w' q p b G (H.look G x (gv H.ws x)) ∧ Turns (Own3 q p b) w w' := by
  have hC := i.rg.place 12 (by omega) x hx
  have hr := i.wrd x
  have hbd := i.bnd
  obtain ⟨hf, -, -⟩ := i.weak hx ht
  have hsz := (i.shp 12 x (by omega) (by omega) hx).2.2.2 hf
  have f3 := (i.fields (k := 12) (by omega) (by omega) hx (j := 0) (by omega) (by omega)).1
  have f4 := (i.fields (k := 12) (by omega) (by omega) hx (j := 1) (by omega) (by omega)).1
  simp only [Int.add_zero] at f3
  rw [show x + 3 + 1 = x + 4 by omega] at f4
  have i1 : Inv (B + 1) G { H with mis := H.mis + 1 } R := (i.raise (B' := B + 1) (by omega) hB).miss (by omega) (by omega)
  have i0 : Inv (B + 1) G { H with mis := 0 } R := (i.raise (B' := B + 1) (by omega) hB).miss (by omega) (by omega)
  have hx51 := (Geo.extent i.ok hC).1
  have hxtop := (Geo.extent i.ok hC).2
  have hl := ln_lo (G.cls x)
  have htop := i.ok.lines
  have hx0 : 51 ≤ x ∧ x ≤ 1048576 := by omega
  obtain ⟨x0, x1⟩ := hx0
  have hr4 : 0 ≤ gv ({ H with mis := 0 } : Hp).ws (x + 4) ∧ gv ({ H with mis := 0 } : Hp).ws (x + 4) < 18446744073709551616 := i.wrd (x + 4)
  obtain ⟨i2, d2, -⟩ := inv_shade i0 hr4.1 hr4.2
  obtain ⟨t1, t2⟩ := shade_task i0 hr4.1 hr4.2 (k := 12) (by omega) (by omega) hx
  have t2' : gv (({ H with mis := 0 } : Hp).shade G (gv H.ws (x + 4))).ws x = gv H.ws x := t2
  have hbd2 := i2.bnd
  have hb2 : 0 ≤ (({ H with mis := 0 } : Hp).shade G (gv H.ws (x + 4))).mis ∧ (({ H with mis := 0 } : Hp).shade G (gv H.ws (x + 4))).mis ≤ B + 1 := ⟨hbd2.2.2.1, hbd2.2.2.2.1⟩
  obtain ⟨-, -, hq⟩ := inv_finish i2 t1 (x := (({ H with mis := 0 } : Hp).shade G (gv H.ws (x + 4))).wai - 1) (y := (({ H with mis := 0 } : Hp).shade G (gv H.ws (x + 4))).mis) (by rw [show gv (({ H with mis := 0 } : Hp).shade G (gv ({ H with mis := 0 } : Hp).ws (x + 4))).ws x = gv H.ws x from t2, if_pos ht]) hb2
  have hq' : MoveOk (sv (({ H with mis := 0 } : Hp).shade G (gv H.ws (x + 4))).ws x (mwith (gv H.ws x) 0 (({ H with mis := 0 } : Hp).shade G (gv H.ws (x + 4))).next)) x (hd (8 + cln (msize (gv H.ws x)))) := by
    rw [← t2']
    exact hq
  have hw2 := i2.waits
  have hw2' : 0 ≤ (({ H with mis := 0 } : Hp).shade G (gv H.ws (x + 4))).wai ∧ (({ H with mis := 0 } : Hp).shade G (gv H.ws (x + 4))).wai ≤ 1048576 := hw2
  have c19 : w.cell? ⟨q, 19, none⟩ = some (.int .i64 H.mis) := h.here.cell 19
  have f19 := h.here.free 19
  have S1 := Lib.hid (h.set_at (H' := { H with mis := H.mis + 1 }) 19 (.int .i64 (H.mis + 1)) rfl rfl)
  have u1 := own_set (q := q) (p := p) (b := b) w 19 (.int .i64 (H.mis + 1))
  have GG := Lib.hid (fun w1 (h1 : Tr w1 q p b G { H with mis := H.mis + 1 }) => hget_any (x + 3) w1 h1 f3)
  have NN := Lib.hid (fun w1 (h1 : Tr w1 q p b G { H with mis := H.mis + 1 }) => (show ({ H with mis := H.mis + 1 } : Hp).namesWhite G (gv H.ws (x + 3)) = false from hn) ▸ namesWhite_any i1 (gv H.ws (x + 3)) (i.wrd _).1 (i.wrd _).2 w1 h1)
  have C2 := Lib.hid (fun w1 (h1 : Tr w1 q p b G { H with mis := H.mis + 1 }) => (show w1.cell? ⟨q, 19, none⟩ = some (.int .i64 (H.mis + 1)) from h1.here.cell 19))
  have F2 := Lib.hid (fun w1 (h1 : Tr w1 q p b G { H with mis := H.mis + 1 }) => h1.here.free 19)
  have S2 := Lib.hid (fun w1 (h1 : Tr w1 q p b G { H with mis := H.mis + 1 }) => h1.set_at (H' := { H with mis := 0 }) 19 (.int .i64 0) rfl rfl)
  have G4 : Hid (∀ w1, Tr w1 q p b G { H with mis := 0 } → Calls Tryd.prog 52 #[.pointer (some ⟨q, 0, none⟩), .int .i64 (x + 3 + 1)] w1 fun e w' => e = .returned (.int .u64 (gv H.ws (x + 4))) ∧ Tr w' q p b G { H with mis := 0 } ∧ Turns (· = p) w1 w') := fun w1 h1 => by
    rw [show x + 3 + 1 = x + 4 by omega]
    exact hget_any (x + 4) w1 h1 f4
  have SH := Lib.hid (fun w1 (h1 : Tr w1 q p b G { H with mis := 0 }) => shade_any i0 (gv H.ws (x + 4)) hr4.1 hr4.2 w1 h1)
  have E : Hid (H.look G x (gv H.ws x) = ({ ({ H with mis := 0 } : Hp).shade G (gv H.ws (x + 4)) with wai := (({ H with mis := 0 } : Hp).shade G (gv H.ws (x + 4))).wai - 1 } : Hp).finish x (gv H.ws x)) := by
    unfold Hid
    rw [Hp.look, hn]
    rfl
  have it2 := i2.inTime
  have it2' : (({ H with mis := 0 } : Hp).shade G (gv H.ws (x + 4))).inTime := it2
  have in2 : inside (({ H with mis := 0 } : Hp).shade G (gv H.ws (x + 4))).ws.length x = true := i2.into (i2.rg.place 12 (by omega) x t1)
  obtain ⟨b1, b2, b3, b4, b5⟩ := hbd
  rw [E.out]
  clear E h i i0 i1 i2 d2 t1 t2 t2' hbd2 hb2 hq hw2 hn hC hf hsz f3 f4 hx51 hxtop hl htop hr4 it2 hx ht
  generalize hH3 : ({ H with mis := 0 } : Hp).shade G (gv H.ws (x + 4)) = H3 at *
  clear hH3
  have C3 := Lib.hid (fun w1 (h1 : Tr w1 q p b G H3) => (show w1.cell? ⟨q, 18, none⟩ = some (.int .i64 H3.wai) from h1.here.cell 18))
  have F3 := Lib.hid (fun w1 (h1 : Tr w1 q p b G H3) => h1.here.free 18)
  have S3 := Lib.hid (fun w1 (h1 : Tr w1 q p b G H3) => h1.set_at (H' := { H3 with wai := H3.wai - 1 }) 18 (.int .i64 (H3.wai - 1)) rfl rfl)
  have FI := Lib.hid (fun w1 (h1 : Tr w1 q p b G { H3 with wai := H3.wai - 1 }) => finish_any x (gv H.ws x) w1 h1 in2 hr.1 hr.2 (show ({ H3 with wai := H3.wai - 1 } : Hp).inTime from it2') hq')
  clear in2 it2' hq' hr
  obtain ⟨v0, v1⟩ := hw2'
  generalize gv H.ws x = m at *
  generalize gv H.ws (x + 3) = k3 at *
  generalize gv H.ws (x + 4) = k4 at *
  go_enter Tryd.func74, Tryd.ntmps74
  go_wp2_with (first
    | (go_at_call 52; (with_reducible refine (GG.out _ S1.out).mono ?_); rintro e w2 ⟨rfl, hs2, ht2⟩)
    | (go_at_call 86
       refine (NN.out _ hs2).mono ?_
       rintro e w3 ⟨rfl, hs3, ht3⟩
       have c3 := C2.out _ hs3
       have g3 := F2.out _ hs3
       have hs4 := Lib.hid (S2.out _ hs3))
    | (go_at_call 52; (with_reducible refine (G4.out _ hs4.out).mono ?_); rintro e w5 ⟨rfl, hs5, ht5⟩)
    | (go_at_call 41
       refine (SH.out _ hs5).mono ?_
       rintro e w6 ⟨rfl, hs6, ht6⟩
       have c6 := C3.out _ hs6
       have g6 := F3.out _ hs6
       have hs7 := Lib.hid (S3.out _ hs6))
    | (go_at_call 85; refine (FI.out _ hs7.out).mono ?_; rintro e w8 ⟨rfl, hs8, ht8⟩))
  go_end0
  exact ⟨rfl, hs8, (u1.trans ((own_of_p ht2).trans ht3)).trans ((own_set _ _ _).trans ((own_of_p ht5).trans (ht6.trans ((own_set _ _ _).trans (own_of_pb ht8)))))⟩

theorem look_wait (i : Inv B G H R) (hB : B + 1 ≤ 1000000000) (x : Int) (hx : x ∈ R 12) (ht : mtask (gv H.ws x) = 2) (hn : H.namesWhite G (gv H.ws (x + 3)) = true) (hm : ¬ H.mis + 1 ≥ H.wai) (w : World) (h : Tr w q p b G H) :
    Calls Tryd.prog 74 #[.pointer (some ⟨q, 0, none⟩), .int .i64 x, .int .u64 (gv H.ws x)] w fun e w' => e = .returned (.tuple #[]) ∧ Tr w' q p b G (H.look G x (gv H.ws x)) ∧ Turns (Own3 q p b) w w' := by
  have hC := i.rg.place 12 (by omega) x hx
  have hbd := i.bnd
  obtain ⟨hf, -, -⟩ := i.weak hx ht
  have hsz := (i.shp 12 x (by omega) (by omega) hx).2.2.2 hf
  have f3 := (i.fields (k := 12) (by omega) (by omega) hx (j := 0) (by omega) (by omega)).1
  simp only [Int.add_zero] at f3
  have i1 : Inv (B + 1) G { H with mis := H.mis + 1 } R := (i.raise (B' := B + 1) (by omega) hB).miss (by omega) (by omega)
  have hq := (inv_wait i1 hx ht (y := H.mis + 1) (by omega)).2.2
  have hx51 := (Geo.extent i.ok hC).1
  have hxtop := (Geo.extent i.ok hC).2
  have hl := ln_lo (G.cls x)
  have htop := i.ok.lines
  have hx0 : 51 ≤ x ∧ x ≤ 1048576 := by omega
  obtain ⟨x0, x1⟩ := hx0
  obtain ⟨v0, v1⟩ := i.waits
  have c19 : w.cell? ⟨q, 19, none⟩ = some (.int .i64 H.mis) := h.here.cell 19
  have f19 := h.here.free 19
  have S1 := Lib.hid (h.set_at (H' := { H with mis := H.mis + 1 }) 19 (.int .i64 (H.mis + 1)) rfl rfl)
  have u1 := own_set (q := q) (p := p) (b := b) w 19 (.int .i64 (H.mis + 1))
  have GG := Lib.hid (fun w1 (h1 : Tr w1 q p b G { H with mis := H.mis + 1 }) => hget_any (x + 3) w1 h1 f3)
  have NN := Lib.hid (fun w1 (h1 : Tr w1 q p b G { H with mis := H.mis + 1 }) => (show ({ H with mis := H.mis + 1 } : Hp).namesWhite G (gv H.ws (x + 3)) = true from hn) ▸ namesWhite_any i1 (gv H.ws (x + 3)) (i.wrd _).1 (i.wrd _).2 w1 h1)
  have C2 := Lib.hid (fun w1 (h1 : Tr w1 q p b G { H with mis := H.mis + 1 }) => (show w1.cell? ⟨q, 19, none⟩ = some (.int .i64 (H.mis + 1)) from h1.here.cell 19))
  have C3 := Lib.hid (fun w1 (h1 : Tr w1 q p b G { H with mis := H.mis + 1 }) => (show w1.cell? ⟨q, 18, none⟩ = some (.int .i64 H.wai) from h1.here.cell 18))
  have WT := Lib.hid (fun w1 (h1 : Tr w1 q p b G { H with mis := H.mis + 1 }) => wait_any x w1 h1 hq)
  have E : Hid (H.look G x (gv H.ws x) = ({ H with mis := H.mis + 1 } : Hp).wait x) := by
    unfold Hid
    rw [Hp.look, hn, if_pos rfl, if_neg hm]
  obtain ⟨b1, b2, b3, b4, b5⟩ := hbd
  have g1 : decide (H.wai ≤ H.mis + 1) = false := by simp; omega
  rw [E.out]
  clear E h i i1 hq hn hC hf hsz f3 hx51 hxtop hl htop hx ht hm
  generalize gv H.ws x = m at *
  generalize gv H.ws (x + 3) = k3 at *
  go_enter Tryd.func74, Tryd.ntmps74
  go_wp2_with (first
    | (go_at_call 52; (with_reducible refine (GG.out _ S1.out).mono ?_); rintro e w2 ⟨rfl, hs2, ht2⟩)
    | (go_at_call 86
       refine (NN.out _ hs2).mono ?_
       rintro e w3 ⟨rfl, hs3, ht3⟩
       have c3 := C2.out _ hs3
       have c4 := C3.out _ hs3))
  go_quiet (fail)
  go_wp2_with (go_at_call 84; refine (WT.out _ (hs3.drewN nq)).mono ?_; rintro e w5 ⟨rfl, hs5, ht5⟩)
  refine bodyPost_ret (results_none rfl _ _ _) rfl ?_
  exact ⟨rfl, hs5, (u1.trans ((own_of_p ht2).trans ht3)).trans ((own_drewN _ _).trans (own_of_pb ht5))⟩

theorem look_break (i : Inv B G H R) (hB : B + 1 ≤ 1000000000) (x : Int) (hx : x ∈ R 12) (ht : mtask (gv H.ws x) = 2) (hn : H.namesWhite G (gv H.ws (x + 3)) = true) (hm : H.mis + 1 ≥ H.wai) (w : World) (h : Tr w q p b G H) :
    Calls Tryd.prog 74 #[.pointer (some ⟨q, 0, none⟩), .int .i64 x, .int .u64 (gv H.ws x)] w fun e w' => e = .returned (.tuple #[]) ∧ Tr w' q p b G (H.look G x (gv H.ws x)) ∧ Turns (Own3 q p b) w w' := by
  have hC := i.rg.place 12 (by omega) x hx
  have hr := i.wrd x
  have hbd := i.bnd
  obtain ⟨hf, q3, q4⟩ := i.weak hx ht
  have hsz := (i.shp 12 x (by omega) (by omega) hx).2.2.2 hf
  have f3 := (i.fields (k := 12) (by omega) (by omega) hx (j := 0) (by omega) (by omega)).1
  have f4 := (i.fields (k := 12) (by omega) (by omega) hx (j := 1) (by omega) (by omega)).1
  simp only [Int.add_zero] at f3
  rw [show x + 3 + 1 = x + 4 by omega] at f4
  have i1 : Inv (B + 1) G { H with mis := H.mis + 1 } R := (i.raise (B' := B + 1) (by omega) hB).miss (by omega) (by omega)
  have j1 := inv_data (v := 3) i1 q3 (by omega) (by omega)
  have j2 := inv_data (v := 3) j1 q4 (by omega) (by omega)
  have e : gv (sv (sv H.ws (x + 3) 3) (x + 4) 3) x = gv H.ws x := by
    have h4 : inside (sv H.ws (x + 3) 3).length (x + 4) = true := by
      rw [sv_length]
      exact f4
    rw [gv_sv _ _ h4, gv_sv _ _ f3, if_neg (by omega), if_neg (by omega)]
  obtain ⟨-, -, hq⟩ := inv_finish j2 hx (x := H.wai - 1) (y := H.mis + 1) (by
    show H.wai - 1 = if mtask (gv (sv (sv H.ws (x + 3) 3) (x + 4) 3) x) = 2 then H.wai - 1 else H.wai
    rw [e, if_pos ht]) (by omega)
  have hq' : MoveOk (sv (sv (sv H.ws (x + 3) 3) (x + 4) 3) x (mwith (gv H.ws x) 0 H.next)) x (hd (8 + cln (msize (gv H.ws x)))) := by
    rw [← e]
    exact hq
  have hx51 := (Geo.extent i.ok hC).1
  have hxtop := (Geo.extent i.ok hC).2
  have hl := ln_lo (G.cls x)
  have htop := i.ok.lines
  have hx0 : 51 ≤ x ∧ x ≤ 1048576 := by omega
  obtain ⟨x0, x1⟩ := hx0
  obtain ⟨v0, v1⟩ := i.waits
  have c19 : w.cell? ⟨q, 19, none⟩ = some (.int .i64 H.mis) := h.here.cell 19
  have f19 := h.here.free 19
  have S1 := Lib.hid (h.set_at (H' := { H with mis := H.mis + 1 }) 19 (.int .i64 (H.mis + 1)) rfl rfl)
  have u1 := own_set (q := q) (p := p) (b := b) w 19 (.int .i64 (H.mis + 1))
  have GG := Lib.hid (fun w1 (h1 : Tr w1 q p b G { H with mis := H.mis + 1 }) => hget_any (x + 3) w1 h1 f3)
  have NN := Lib.hid (fun w1 (h1 : Tr w1 q p b G { H with mis := H.mis + 1 }) => (show ({ H with mis := H.mis + 1 } : Hp).namesWhite G (gv H.ws (x + 3)) = true from hn) ▸ namesWhite_any i1 (gv H.ws (x + 3)) (i.wrd _).1 (i.wrd _).2 w1 h1)
  have C2 := Lib.hid (fun w1 (h1 : Tr w1 q p b G { H with mis := H.mis + 1 }) => (show w1.cell? ⟨q, 19, none⟩ = some (.int .i64 (H.mis + 1)) from h1.here.cell 19))
  have C3 := Lib.hid (fun w1 (h1 : Tr w1 q p b G { H with mis := H.mis + 1 }) => (show w1.cell? ⟨q, 18, none⟩ = some (.int .i64 H.wai) from h1.here.cell 18))
  have BB := Lib.hid (fun w => bool_any false w)
  have S3 := Lib.hid (fun w1 (h1 : Tr w1 q p b G { H with mis := H.mis + 1 }) => hset_any (x + 3) 3 w1 h1 f3)
  have S4 : Hid (∀ w1, Tr w1 q p b G { H with mis := H.mis + 1, ws := sv H.ws (x + 3) 3 } → Calls Tryd.prog 55 #[.pointer (some ⟨q, 0, none⟩), .int .i64 (x + 3 + 1), .int .u64 3] w1 fun e w' =>
      e = .returned (.tuple #[]) ∧ Tr w' q p b G { H with mis := H.mis + 1, ws := sv (sv H.ws (x + 3) 3) (x + 4) 3 } ∧ Turns (fun k => k = p ∨ k = b) w1 w') := fun w1 h1 => by
    rw [show x + 3 + 1 = x + 4 by omega]
    exact hset_any (x + 4) 3 w1 h1 (by show inside (sv H.ws (x + 3) 3).length (x + 4) = true; rw [sv_length]; exact f4)
  have E : Hid (H.look G x (gv H.ws x) = ({ H with mis := H.mis + 1, wai := H.wai - 1, ws := sv (sv H.ws (x + 3) 3) (x + 4) 3 } : Hp).finish x (gv H.ws x)) := by
    unfold Hid
    rw [Hp.look, hn, if_pos rfl, if_pos hm]
  have in2 : inside (sv (sv H.ws (x + 3) 3) (x + 4) 3).length x = true := j2.into hC
  have it := i.inTime
  obtain ⟨b1, b2, b3, b4, b5⟩ := hbd
  have g1 : decide (H.wai ≤ H.mis + 1) = true := by simp; omega
  rw [E.out]
  clear E h i i1 j1 j2 hq hn hC hf hsz f3 f4 hx51 hxtop hl htop hx ht hm e q3 q4
  generalize sv (sv H.ws (x + 3) 3) (x + 4) 3 = ws2 at *
  generalize sv H.ws (x + 3) 3 = ws1 at *
  have C4 := Lib.hid (fun w1 (h1 : Tr w1 q p b G { H with mis := H.mis + 1, ws := ws2 }) => (show w1.cell? ⟨q, 18, none⟩ = some (.int .i64 H.wai) from h1.here.cell 18))
  have F4 := Lib.hid (fun w1 (h1 : Tr w1 q p b G { H with mis := H.mis + 1, ws := ws2 }) => h1.here.free 18)
  have S5 := Lib.hid (fun w1 (h1 : Tr w1 q p b G { H with mis := H.mis + 1, ws := ws2 }) => h1.set_at (H' := { H with mis := H.mis + 1, wai := H.wai - 1, ws := ws2 }) 18 (.int .i64 (H.wai - 1)) rfl rfl)
  have FI := Lib.hid (fun w1 (h1 : Tr w1 q p b G { H with mis := H.mis + 1, wai := H.wai - 1, ws := ws2 }) => finish_any x (gv H.ws x) w1 h1 in2 hr.1 hr.2 (show ({ H with mis := H.mis + 1, wai := H.wai - 1, ws := ws2 } : Hp).inTime from it) hq')
  clear in2 it hq' hr
  generalize gv H.ws x = m at *
  generalize gv H.ws (x + 3) = k3 at *
  go_enter Tryd.func74, Tryd.ntmps74
  go_wp2_with (first
    | (go_at_call 52; (with_reducible refine (GG.out _ S1.out).mono ?_); rintro e w2 ⟨rfl, hs2, ht2⟩)
    | (go_at_call 86
       refine (NN.out _ hs2).mono ?_
       rintro e w3 ⟨rfl, hs3, ht3⟩
       have c3 := C2.out _ hs3
       have c4 := C3.out _ hs3))
  go_quiet (fail)
  have hs4 := hs3.drewN nq
  have ht4 := (u1.trans ((own_of_p ht2).trans ht3)).drewN nq
  clear hs3 ht3 c3 c4 hs2 ht2
  generalize w3.drewN nq = w4 at *
  go_wp2_with (first
    | (go_at_call 87; refine (BB.out _).mono ?_; rintro e w' ⟨rfl, rfl⟩)
    | (go_at_call 55; (with_reducible refine (S3.out _ hs4).mono ?_); rintro e w5 ⟨rfl, hs5, ht5⟩)
    | (go_at_call 55
       (with_reducible refine (S4.out _ hs5).mono ?_)
       rintro e w6 ⟨rfl, hs6, ht6⟩
       have c6 := C4.out _ hs6
       have g6 := F4.out _ hs6
       have hs7 := Lib.hid (S5.out _ hs6))
    | (go_at_call 85; refine (FI.out _ hs7.out).mono ?_; rintro e w8 ⟨rfl, hs8, ht8⟩))
  go_end0
  exact ⟨rfl, hs8, ht4.trans ((own_of_pb ht5).trans ((own_of_pb ht6).trans ((own_set _ _ _).trans (own_of_pb ht8))))⟩

theorem look_any (i : Inv B G H R) (hB : B + 1 ≤ 1000000000) (x : Int) (hx : x ∈ R 12) (ht : mtask (gv H.ws x) = 2) (w : World) (h : Tr w q p b G H) :
    Calls Tryd.prog 74 #[.pointer (some ⟨q, 0, none⟩), .int .i64 x, .int .u64 (gv H.ws x)] w fun e w' => e = .returned (.tuple #[]) ∧ Tr w' q p b G (H.look G x (gv H.ws x)) ∧ Turns (Own3 q p b) w w' := by
  cases hn : H.namesWhite G (gv H.ws (x + 3))
  · exact look_live i hB x hx ht hn w h
  · by_cases hm : H.mis + 1 ≥ H.wai
    · exact look_break i hB x hx ht hn hm w h
    · exact look_wait i hB x hx ht hn hm w h
end
end Go.Proofs.YtclcnepkgjcmcaaDoor
