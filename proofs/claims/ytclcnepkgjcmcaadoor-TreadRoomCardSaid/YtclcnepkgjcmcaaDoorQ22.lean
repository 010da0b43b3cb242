/- The flip, the end; increments. -/
import Derived.Test.YtclcnepkgjcmcaaDoorQ21
namespace Go.Proofs.YtclcnepkgjcmcaaDoor
open Go.ChangeShapes Go.WideShapes Go.ChangeAt Go.RowKit

section
variable {B : Int} {G : Geo} {H : Hp} {R : Nat → List Int} {q p b : Nat}

theorem ring_Join_any (ws : List Int) (x y : Int) (w : World) (hs : Sto w p b ws) (k : JoinOk ws x y) :
    Calls Tryd.prog 83 #[.pointer (some ⟨p, 0, none⟩), .int .i64 x, .int .i64 y] w fun e w' => e = .returned .nilIface ∧ Sto w' p b (joi ws x y) ∧ Turns (fun k => k = p ∨ k = b) w w' := by
  by_cases e : gv ws (y + 2) = y
  · exact ring_Join_no p b ws x y w hs k.short k.pb e
  · exact ring_Join_yes p b ws x y w hs k.short k.pa k.pb k.pf k.pl k.pz e

/-- the words that a heap's free and white cells are counted in -/
def Hp.small (G : Geo) (H : Hp) : Prop := ∀ c, c < 4 → 0 ≤ G.n.at_ c ∧ G.n.at_ c ≤ 4000 ∧ 0 ≤ H.fre.at_ c ∧ H.fre.at_ c ≤ 4000

theorem Inv.small (i : Inv B G H R) : H.small G := by
  intro c hc
  have := i.ok.num hc
  have := i.count hc
  have := i.frec c hc
  omega
theorem Inv.freeWhite (i : Inv B G H R) (hm : H.mrk = true) {c : Nat} (hc : c < 4) : 0 ≤ H.fre.at_ c ∧ H.fre.at_ c ≤ 4000 ∧ 0 ≤ H.whi.at_ c ∧ H.whi.at_ c ≤ 4000 := by
  have := i.ok.num hc
  have := i.count hc
  have := i.frec c hc
  have := i.whic hm c hc
  omega

theorem flip_any (i : Inv B G H R) (hm : H.mrk = false) (w : World) (h : Tr w q p b G H) :
    Calls Tryd.prog 70 #[.pointer (some ⟨q, 0, none⟩)] w fun e w' => e = .returned (.tuple #[]) ∧ Tr w' q p b G (H.flip G) ∧ Turns (Own3 q p b) w w' := by
  have hsm := i.small
  have JJ := Lib.hid (fun c (hc : c < 4) w1 (h1 : Tr w1 q p b G (H.flips G c)) => ring_Join_any (H.flips G c).ws (hd (4 + c)) (hd (8 + c)) w1 h1.words ((flips_facts i c (by omega)).2.2.2.2.2.2.2.2.2 hc))
  have HD := Lib.hid (fun r (hr : r < 1000) w => head_any r hr w)
  have i0 := (inv_flip0 i hm).1
  have fre4 : ∀ c, c ≤ 4 → (H.flips G c).fre = H.fre := fun c hc => (flips_facts i c hc).2.2.2.2.1
  have F4 := Lib.hid fre4
  have hlen0 := fun n => (inv_regs i0 n).2.len
  have R1 := Lib.hid (fun (n : Nat) (hn : n < 12) w1 (h1 : Tr w1 q p b G (({ H.flips G 4 with mrk := true } : Hp).shadeRegs G n)) => hget_any n w1 h1 (by
    have := (inv_regs i0 n).1.len
    have := i.ok.lines
    exact inside_mk (by omega) (by omega)))
  have R2 := Lib.hid (fun (n : Nat) w1 (h1 : Tr w1 q p b G (({ H.flips G 4 with mrk := true } : Hp).shadeRegs G n)) =>
    shade_any (inv_regs i0 n).1 (gv (({ H.flips G 4 with mrk := true } : Hp).shadeRegs G n).ws n) ((inv_regs i0 n).1.wrd _).1 ((inv_regs i0 n).1.wrd _).2 w1 h1)
  have R3 : Hid (∀ n : Nat, ({ H.flips G 4 with mrk := true } : Hp).shadeRegs G (n + 1) = (({ H.flips G 4 with mrk := true } : Hp).shadeRegs G n).shade G (gv (({ H.flips G 4 with mrk := true } : Hp).shadeRegs G n).ws n)) := fun n => rfl
  have R0 : Hid (({ H.flips G 4 with mrk := true } : Hp).shadeRegs G 0 = { H.flips G 4 with mrk := true }) := rfl
  have E : Hid (H.flip G = ({ H.flips G 4 with mrk := true } : Hp).shadeRegs G 12) := rfl
  have FS : Hid (∀ c : Nat, H.flips G (c + 1) = { H.flips G c with ws := joi (H.flips G c).ws (hd (4 + c)) (hd (8 + c)), whi := (H.flips G c).whi.put c (G.n.at_ c - (H.flips G c).fre.at_ c) }) := fun c => rfl
  have T0 : Tr w q p b G (H.flips G 0) := h
  rw [E.out]
  have SM := Lib.hid hsm
  clear E h i hm i0 hlen0 fre4 hsm
  generalize ({ H.flips G 4 with mrk := true } : Hp).shadeRegs G = S at *
  generalize hF : H.flips G = F at *
  clear hF
  go_enter Tryd.func70, Tryd.ntmps70
  go_wp2_with fail
  go_loopw [4] (fun c wr => ∃ j : Nat, j ≤ 4 ∧ c = .int .i64 j ∧ Tr wr q p b G (F j) ∧ Turns (Own3 q p b) w wr) (fun c _ => 4 - (intOf c).toNat)
  case atStart => exact ⟨0, by omega, rfl, T0, Turns.refl _ _⟩
  case round =>
    obtain ⟨j, hj, rfl, hs, hts⟩ := hrel
    by_cases hj4 : j < 4
    · have c0 := hs.ptr
      have JC := Lib.hid (JJ.out j hj4)
      have H4 : Hid (∀ w, Calls Tryd.prog 33 #[.int .i64 (4 + (j : Int))] w fun e w' => e = .returned (.int .i64 (hd (4 + j))) ∧ w = w') := fun w => HD.out (4 + j) (by omega) w
      have H8 : Hid (∀ w, Calls Tryd.prog 33 #[.int .i64 (8 + (j : Int))] w fun e w' => e = .returned (.int .i64 (hd (8 + j))) ∧ w = w') := fun w => HD.out (8 + j) (by omega) w
      have FJ := Lib.hid (FS.out j)
      have FE := Lib.hid (F4.out j hj)
      have hw4 : IntKind.i64.wrap (4 + (j : Int)) = 4 + (j : Int) := IntWalk.i64_in _ (by omega)
      have hw8 : IntKind.i64.wrap (8 + (j : Int)) = 8 + (j : Int) := IntWalk.i64_in _ (by omega)
      obtain ⟨n0, n1, r0, r1⟩ := SM.out j hj4
      have T1 := Lib.hid (fun w1 (k1 : Turns (fun k => k = p ∨ k = b) wr w1) s1 => hs.stored (ws := joi (F j).ws (hd (4 + j)) (hd (8 + j))) k1 s1)
      have hs' := Lib.hid hs
      clear hs
      generalize hd (4 + j) = d4 at *
      generalize hd (8 + j) = d8 at *
      go_wp2_with fail
      go_region_held3 (fun w' => w'.cell? ⟨q, 0, none⟩ = some (.pointer (some ⟨p, 0, none⟩))) (first | go_keep | exact c2)
        (first
          | (go_at_call 33
             (with_reducible refine (H4.out _).mono ?_)
             rintro e w2 ⟨rfl, rfl⟩)
          | (go_at_call 33
             (with_reducible refine (H8.out _).mono ?_)
             rintro e w2 ⟨rfl, rfl⟩)
          | (go_at_call 83
             refine (JC.out _ hs'.out.drew).mono ?_
             rintro e w2 ⟨rfl, hs2, ht2⟩
             have c2 := (T1.out w2 ht2.of_drew hs2).ptr))
      have hs3 := T1.out w2 ht2.of_drew hs2
      have ht3 := hts.trans (own_of_pb (q := q) ht2.of_drew)
      clear hs2 ht2 c2 c0 hs' T1 hts hw4 hw8
      have cn := hs3.counts hj4
      have cf : w2.cell? ⟨q, 10 + j, none⟩ = some (.int .i64 ((F j).fre.at_ j)) := hs3.free hj4
      rw [FE.out] at cf
      have fw := hs3.here.free (14 + j)
      have cw : w2.cell? ⟨q, 14 + j, none⟩ = some (.int .i64 ((F j).whi.at_ j)) := hs3.white hj4
      have hws : IntKind.i64.wrap (G.n.at_ j - H.fre.at_ j) = G.n.at_ j - H.fre.at_ j := IntWalk.i64_in _ (by omega)
      have j0 : (0 : Int) ≤ (j : Int) := by omega
      have j1 : (j : Int) < 4 := by omega
      have SW := Lib.hid (hs3.set_white hj4 (G.n.at_ j - H.fre.at_ j))
      have hs3' := Lib.hid hs3
      clear hs3
      go_wp2_with fail
      go_region_with (fail)
      all_goals
        have ht4 := (ht3.setCell (p := ⟨q, 14 + j, none⟩) (fun _ => .inl rfl) (.int .i64 (G.n.at_ j - H.fre.at_ j))).drew
        clear hws cw cf fw
        go_wp2_with fail
        go_roundw
        case rel => exact ⟨j + 1, by omega, by go_num, by rw [FJ.out, show (F j).fre.at_ j = H.fre.at_ j by rw [FE.out]]; exact SW.out.drew, ht4⟩
        case measure => simp [intOf]; omega
    · have e4 : j = 4 := by omega
      have hs : Tr wr q p b G (F 4) := e4 ▸ hs
      clear e4
      have c20 : ∃ v, wr.cell? ⟨q, 20, none⟩ = some v := ⟨_, hs.here.cell 20⟩
      obtain ⟨v20, c20⟩ := c20
      have f20 := hs.here.free 20
      have hs0 := hs.set_at (H' := S 0) 20 (.bool true) (by rw [R0.out]; rfl) (by rw [R0.out])
      have ht0 := hts.setCell (p := ⟨q, 20, none⟩) (fun _ => .inl rfl) (.bool true)
      clear hs hts
      go_wp2_with fail
      go_loopw [40] (fun c wr => ∃ j : Nat, j ≤ 12 ∧ c = .int .i64 j ∧ Tr wr q p b G (S j) ∧ Turns (Own3 q p b) w wr) (fun c _ => 12 - (intOf c).toNat)
      case atStart => exact ⟨0, by omega, rfl, hs0, ht0⟩
      case round =>
        obtain ⟨j, hj, rfl, hs, hts⟩ := hrel
        by_cases hj12 : j < 12
        · have GJ := Lib.hid (R1.out j hj12)
          have SJ := Lib.hid (R2.out j)
          have UJ : Hid (S (j + 1) = (S j).shade G (gv (S j).ws (j : Int))) := R3.out j
          generalize gv (S j).ws (j : Int) = f at *
          go_wp2_with (first
            | (go_at_call 52; refine (GJ.out _ hs).mono ?_; rintro e w2 ⟨rfl, hs2, ht2⟩)
            | (go_at_call 41; refine (SJ.out _ hs2).mono ?_; rintro e w3 ⟨rfl, hs3, ht3⟩))
          go_roundw
          case rel => exact ⟨j + 1, by omega, by go_num, by rw [UJ.out]; exact hs3, hts.trans ((own_of_p ht2).trans ht3)⟩
          case measure => simp [intOf]; omega
        · obtain rfl : j = 12 := by omega
          go_wp2_with fail
          go_end0
          exact ⟨rfl, hs, hts⟩

theorem end_any (i : Inv B G H R) (hm : H.mrk = true) (w : World) (h : Tr w q p b G H) :
    Calls Tryd.prog 71 #[.pointer (some ⟨q, 0, none⟩)] w fun e w' => e = .returned (.tuple #[]) ∧ Tr w' q p b G H.end_ ∧ Turns (Own3 q p b) w w' := by
  have hbd := i.bnd
  have JJ := Lib.hid (fun c (hc : c < 4) w1 (h1 : Tr w1 q p b G (H.ends c)) => ring_Join_any (H.ends c).ws (hd c) (hd (4 + c)) w1 h1.words ((ends_facts i c (by omega)).2.2.2.2.2.2.2.2.2 hc))
  have HD := Lib.hid (fun r (hr : r < 1000) w => head_any r hr w)
  have SM := Lib.hid (fun c (hc : c < 4) => i.freeWhite hm hc)
  have F4 : Hid (∀ c, c < 4 → (H.ends c).fre.at_ c = H.fre.at_ c ∧ (H.ends c).whi.at_ c = H.whi.at_ c) := fun c hc => by
    obtain ⟨-, -, -, f, f', -⟩ := ends_facts i c (by omega)
    rw [f c hc, if_neg (by omega), f']
    exact ⟨rfl, rfl⟩
  have FS : Hid (∀ c : Nat, H.ends (c + 1) = { H.ends c with ws := joi (H.ends c).ws (hd c) (hd (4 + c)), fre := (H.ends c).fre.put c ((H.ends c).fre.at_ c + (H.ends c).whi.at_ c) }) := fun c => rfl
  have T0 : Tr w q p b G (H.ends 0) := h
  have E : Hid (H.end_ = { H.ends 4 with mrk := false, cyc := H.cyc + 1 }) := rfl
  have FC : Hid ((H.ends 4).cyc = H.cyc) := (ends_facts i 4 (by omega)).2.2.2.2.2.2.2.2.1
  obtain ⟨b1, b2, b3, b4, b5⟩ := hbd
  rw [E.out]
  clear E h i hm
  generalize hF : H.ends = F at *
  clear hF
  go_enter Tryd.func71, Tryd.ntmps71
  go_wp2_with fail
  go_loopw [3] (fun c wr => ∃ j : Nat, j ≤ 4 ∧ c = .int .i64 j ∧ Tr wr q p b G (F j) ∧ Turns (Own3 q p b) w wr) (fun c _ => 4 - (intOf c).toNat)
  case atStart => exact ⟨0, by omega, rfl, T0, Turns.refl _ _⟩
  case round =>
    obtain ⟨j, hj, rfl, hs, hts⟩ := hrel
    by_cases hj4 : j < 4
    · have c0 := hs.ptr
      have JC := Lib.hid (JJ.out j hj4)
      have H4 : Hid (∀ w, Calls Tryd.prog 33 #[.int .i64 (4 + (j : Int))] w fun e w' => e = .returned (.int .i64 (hd (4 + j))) ∧ w = w') := fun w => HD.out (4 + j) (by omega) w
      have H0 := Lib.hid (fun w => HD.out j (by omega) w)
      have FJ := Lib.hid (FS.out j)
      obtain ⟨fe1, fe2⟩ := F4.out j hj4
      have FE1 := Lib.hid fe1
      have FE2 := Lib.hid fe2
      clear fe1 fe2
      have hw4 : IntKind.i64.wrap (4 + (j : Int)) = 4 + (j : Int) := IntWalk.i64_in _ (by omega)
      have hw0 : IntKind.i64.wrap (0 + (j : Int)) = (j : Int) := by rw [Int.zero_add]; exact IntWalk.i64_in _ (by omega)
      have hw00 : IntKind.i64.wrap (j : Int) = (j : Int) := IntWalk.i64_in _ (by omega)
      obtain ⟨r0, r1, n0, n1⟩ := SM.out j hj4
      have T1 := Lib.hid (fun w1 (k1 : Turns (fun k => k = p ∨ k = b) wr w1) s1 => hs.stored (ws := joi (F j).ws (hd j) (hd (4 + j))) k1 s1)
      have hs' := Lib.hid hs
      clear hs
      generalize hd (4 + j) = d4 at *
      generalize hd j = d0 at *
      go_wp2_with fail
      go_region_held3 (fun w' => w'.cell? ⟨q, 0, none⟩ = some (.pointer (some ⟨p, 0, none⟩))) (first | go_keep | exact c2)
        (first
          | (go_at_call 33
             (with_reducible refine (H4.out _).mono ?_)
             rintro e w2 ⟨rfl, rfl⟩)
          | (go_at_call 33
             (with_reducible refine (H0.out _).mono ?_)
             rintro e w2 ⟨rfl, rfl⟩)
          | (go_at_call 83
             refine (JC.out _ hs'.out.drew).mono ?_
             rintro e w2 ⟨rfl, hs2, ht2⟩
             have c2 := (T1.out w2 ht2.of_drew hs2).ptr))
      have hs3 := T1.out w2 ht2.of_drew hs2
      have ht3 := hts.trans (own_of_pb (q := q) ht2.of_drew)
      clear hs2 ht2 c2 c0 hs' T1 hts hw4 hw0 hw00
      have cf : w2.cell? ⟨q, 10 + j, none⟩ = some (.int .i64 ((F j).fre.at_ j)) := hs3.free hj4
      rw [FE1.out] at cf
      have cw : w2.cell? ⟨q, 14 + j, none⟩ = some (.int .i64 ((F j).whi.at_ j)) := hs3.white hj4
      rw [FE2.out] at cw
      have fw := hs3.here.free (10 + j)
      have hws : IntKind.i64.wrap (H.fre.at_ j + H.whi.at_ j) = H.fre.at_ j + H.whi.at_ j := IntWalk.i64_in _ (by omega)
      have j0 : (0 : Int) ≤ (j : Int) := by omega
      have j1 : (j : Int) < 4 := by omega
      have SW := Lib.hid (hs3.set_free hj4 (H.fre.at_ j + H.whi.at_ j))
      clear hs3
      go_wp2_with fail
      go_region_with (fail)
      all_goals
        have ht4 := (ht3.setCell (p := ⟨q, 10 + j, none⟩) (fun _ => .inl rfl) (.int .i64 (H.fre.at_ j + H.whi.at_ j))).drew
        clear hws cw cf fw
        go_wp2_with fail
        go_roundw
        case rel => exact ⟨j + 1, by omega, by go_num, by rw [FJ.out, FE1.out, FE2.out]; exact SW.out.drew, ht4⟩
        case measure => simp [intOf]; omega
    · obtain rfl : j = 4 := by omega
      have c20 : ∃ v, wr.cell? ⟨q, 20, none⟩ = some v := ⟨_, hs.here.cell 20⟩
      obtain ⟨v20, c20⟩ := c20
      have f20 := hs.here.free 20
      have c21 : wr.cell? ⟨q, 21, none⟩ = some (.int .i64 H.cyc) := by rw [← FC.out]; exact hs.here.cell 21
      have f21 := hs.here.free 21
      have hs0 := hs.set_at (H' := { F 4 with mrk := false }) 20 (.bool false) rfl rfl
      have hs1 := hs0.set_at (H' := { F 4 with mrk := false, cyc := H.cyc + 1 }) 21 (.int .i64 (H.cyc + 1)) rfl rfl
      have ht0 := (hts.setCell (p := ⟨q, 20, none⟩) (fun _ => .inl rfl) (.bool false)).setCell (p := ⟨q, 21, none⟩) (fun _ => .inl rfl) (.int .i64 (H.cyc + 1))
      have HS := Lib.hid hs1
      clear hs hts hs0 hs1
      go_wp2_with fail
      go_end0
      exact ⟨rfl, HS.out, ht0⟩
end
end Go.Proofs.YtclcnepkgjcmcaaDoor

/- Increments. -/
namespace Go.Proofs.YtclcnepkgjcmcaaDoor
open Go.ChangeShapes Go.WideShapes Go.ChangeAt Go.RowKit

section
variable {B : Int} {G : Geo} {H : Hp} {R : Nat → List Int} {q p b : Nat}

theorem inc_flip (i : Inv B G H R) (hm : H.mrk = false) (w : World) (h : Tr w q p b G H) :
    Calls Tryd.prog 44 #[.pointer (some ⟨q, 0, none⟩)] w fun e w' => e = .returned (.tuple #[]) ∧ Tr w' q p b G (H.inc G) ∧ Turns (Own3 q p b) w w' := by
  have c8 : w.cell? ⟨q, 20, none⟩ = some (.bool H.mrk) := h.here.cell 20
  have FF := Lib.hid (flip_any i hm w h)
  rw [show H.inc G = H.flip G by rw [Hp.inc, hm]; rfl]
  rw [hm] at c8
  clear hm h i
  go_enter Tryd.func44, Tryd.ntmps44
  go_wp2_with (go_at_call 70; refine FF.out.mono ?_; rintro e w2 ⟨rfl, hs2, ht2⟩)
  refine bodyPost_ret (results_none rfl _ _ _) rfl ?_
  exact ⟨rfl, hs2, ht2⟩

theorem inc_end (i : Inv B G H R) (hm : H.mrk = true) (hf : gv H.ws (hd 12 + 2) = hd 12) (w : World) (h : Tr w q p b G H) :
    Calls Tryd.prog 44 #[.pointer (some ⟨q, 0, none⟩)] w fun e w' => e = .returned (.tuple #[]) ∧ Tr w' q p b G (H.inc G) ∧ Turns (Own3 q p b) w w' := by
  have c8 : w.cell? ⟨q, 20, none⟩ = some (.bool H.mrk) := h.here.cell 20
  have c0 := h.ptr
  have mh : Mem G.C (hd 12) := .inl ⟨12, by omega, rfl⟩
  have BB := Lib.hid (fun w1 h1 => hf ▸ ring_Behind p b H.ws (hd 12) w1 h1 i.short (mh.pl i.plc) (hf.symm ▸ mh.pl i.plc))
  have EE := Lib.hid (fun w1 (h1 : Tr w1 q p b G H) => end_any i hm w1 h1)
  have HD : Hid (∀ w, Calls Tryd.prog 33 #[.int .i64 12] w fun e w' => e = .returned (.int .i64 (hd 12)) ∧ w = w') := fun w => head_any 12 (by omega) w
  rw [show H.inc G = H.end_ by rw [Hp.inc, hm, if_pos rfl, if_pos hf]]
  rw [hm] at c8
  have T1 := Lib.hid (fun w1 (k1 : Turns (· = p) w w1) s1 => h.stored' k1 s1)
  have hs := Lib.hid h
  clear hm h i hf mh
  generalize hd 12 = d at *
  go_enter Tryd.func44, Tryd.ntmps44
  go_wp2_with fail
  go_region_held3 (fun w' => w'.cell? ⟨q, 0, none⟩ = some (.pointer (some ⟨p, 0, none⟩))) (first | go_keep | exact c2)
    (first
      | (go_at_call 33
         refine (HD.out _).mono ?_
         rintro e w2 ⟨rfl, rfl⟩)
      | (go_at_call 32
         refine (BB.out _ hs.out.words.drew).mono ?_
         rintro e w2 ⟨rfl, hs2, ht2⟩
         have c2 := (T1.out w2 ht2.of_drew hs2).ptr))
  have hs3 := T1.out w2 ht2.of_drew hs2
  have ht3 := own_of_p (q := q) (b := b) ht2.of_drew
  clear c2 hs2 ht2 T1 hs
  go_wp2_with (first
    | (go_at_call 33
       refine (HD.out _).mono ?_
       rintro e w2 ⟨rfl, rfl⟩)
    | (go_at_call 71; refine (EE.out _ hs3).mono ?_; rintro e w4 ⟨rfl, hs4, ht4⟩))
  refine bodyPost_ret (results_none rfl _ _ _) rfl ?_
  exact ⟨rfl, hs4, ht3.trans ht4⟩

theorem inc_task (i : Inv B G H R) (hB : B + 1 ≤ 1000000000) (hm : H.mrk = true) (x : Int) (hx : x ∈ R 12) (hf : gv H.ws (hd 12 + 2) = x) (hne : x ≠ hd 12) (w : World) (h : Tr w q p b G H) :
    Calls Tryd.prog 44 #[.pointer (some ⟨q, 0, none⟩)] w fun e w' => e = .returned (.tuple #[]) ∧ Tr w' q p b G (H.inc G) ∧ Turns (Own3 q p b) w w' := by
  have c8 : w.cell? ⟨q, 20, none⟩ = some (.bool H.mrk) := h.here.cell 20
  have c0 := h.ptr
  have mh : Mem G.C (hd 12) := .inl ⟨12, by omega, rfl⟩
  have hC := i.rg.place 12 (by omega) x hx
  have mx : Mem G.C x := .inr hC
  have hr := i.wrd x
  have BB := Lib.hid (fun w1 h1 => hf ▸ ring_Behind p b H.ws (hd 12) w1 h1 i.short (mh.pl i.plc) (hf.symm ▸ mx.pl i.plc))
  have MM := Lib.hid (fun w1 (h1 : Tr w1 q p b G H) => mark_any x w1 h1 (i.into hC))
  have TK := Lib.hid (fun w => task_any (gv H.ws x) hr.1 hr.2 w)
  have HD : Hid (∀ w, Calls Tryd.prog 33 #[.int .i64 12] w fun e w' => e = .returned (.int .i64 (hd 12)) ∧ w = w') := fun w => head_any 12 (by omega) w
  have SC := Lib.hid (fun ht w1 (h1 : Tr w1 q p b G H) => scan_any i x hx ht w1 h1)
  have LK := Lib.hid (fun ht w1 (h1 : Tr w1 q p b G H) => look_any i hB x hx ht w1 h1)
  have hk := (i.mem12 hx).2
  have E1 : Hid (mtask (gv H.ws x) = 1 → H.inc G = H.scan G x (gv H.ws x)) := fun ht => by rw [Hp.inc, hm, if_pos rfl, hf, if_neg hne, if_pos ht]
  have E2 : Hid (mtask (gv H.ws x) = 2 → H.inc G = H.look G x (gv H.ws x)) := fun ht => by rw [Hp.inc, hm, if_pos rfl, hf, if_neg hne, if_neg (by omega), if_pos ht]
  have hxd : (x == hd 12) = false := by simpa using hne
  rw [hm] at c8
  have T1 := Lib.hid (fun w1 (k1 : Turns (· = p) w w1) s1 => h.stored' k1 s1)
  have hs := Lib.hid h
  clear hm h i hf mh hne hx hC mx hr
  generalize gv H.ws x = m at *
  generalize hd 12 = d at *
  rcases hk with hk | hk
  · have SC1 := Lib.hid (SC.out hk)
    rw [E1.out hk]
    rw [hk] at TK
    clear SC LK E1 E2 hk
    generalize H.scan G x m = H2 at *
    go_enter Tryd.func44, Tryd.ntmps44
    go_wp2_with fail
    go_region_held3 (fun w' => w'.cell? ⟨q, 0, none⟩ = some (.pointer (some ⟨p, 0, none⟩))) (first | go_keep | exact c2)
      (first
        | (go_at_call 33
           refine (HD.out _).mono ?_
           rintro e w2 ⟨rfl, rfl⟩)
        | (go_at_call 32
           refine (BB.out _ hs.out.words.drew).mono ?_
           rintro e w2 ⟨rfl, hs2, ht2⟩
           have c2 := (T1.out w2 ht2.of_drew hs2).ptr))
    have hs3 := T1.out w2 ht2.of_drew hs2
    have ht3 := own_of_p (q := q) (b := b) ht2.of_drew
    clear c2 hs2 ht2 T1 hs
    go_wp2_with (first
      | (go_at_call 33
         refine (HD.out _).mono ?_
         rintro e w2 ⟨rfl, rfl⟩)
      | (go_at_call 67; refine (MM.out _ hs3).mono ?_; rintro e w4 ⟨rfl, hs4, ht4⟩)
      | (go_at_call 72; refine (TK.out _).mono ?_; rintro e w' ⟨rfl, rfl⟩)
      | (go_at_call 73; refine (SC1.out _ hs4).mono ?_; rintro e w5 ⟨rfl, hs5, ht5⟩))
    go_end0
    exact ⟨rfl, hs5, ht3.trans ((own_of_p ht4).trans ht5)⟩
  · have LK1 := Lib.hid (LK.out hk)
    rw [E2.out hk]
    rw [hk] at TK
    clear SC LK E1 E2 hk
    generalize H.look G x m = H2 at *
    go_enter Tryd.func44, Tryd.ntmps44
    go_wp2_with fail
    go_region_held3 (fun w' => w'.cell? ⟨q, 0, none⟩ = some (.pointer (some ⟨p, 0, none⟩))) (first | go_keep | exact c2)
      (first
        | (go_at_call 33
           refine (HD.out _).mono ?_
           rintro e w2 ⟨rfl, rfl⟩)
        | (go_at_call 32
           refine (BB.out _ hs.out.words.drew).mono ?_
           rintro e w2 ⟨rfl, hs2, ht2⟩
           have c2 := (T1.out w2 ht2.of_drew hs2).ptr))
    have hs3 := T1.out w2 ht2.of_drew hs2
    have ht3 := own_of_p (q := q) (b := b) ht2.of_drew
    clear c2 hs2 ht2 T1 hs
    go_wp2_with (first
      | (go_at_call 33
         refine (HD.out _).mono ?_
         rintro e w2 ⟨rfl, rfl⟩)
      | (go_at_call 67; refine (MM.out _ hs3).mono ?_; rintro e w4 ⟨rfl, hs4, ht4⟩)
      | (go_at_call 72; refine (TK.out _).mono ?_; rintro e w' ⟨rfl, rfl⟩)
      | (go_at_call 74; refine (LK1.out _ hs4).mono ?_; rintro e w5 ⟨rfl, hs5, ht5⟩))
    go_end0
    exact ⟨rfl, hs5, ht3.trans ((own_of_p ht4).trans ht5)⟩

theorem inc_any (i : Inv B G H R) (hB : B + 1 ≤ 1000000000) (w : World) (h : Tr w q p b G H) :
    Calls Tryd.prog 44 #[.pointer (some ⟨q, 0, none⟩)] w fun e w' => e = .returned (.tuple #[]) ∧ Tr w' q p b G (H.inc G) ∧ Turns (Own3 q p b) w w' := by
  cases hm : H.mrk
  · exact inc_flip i hm w h
  · rcases i.first with ⟨-, hf⟩ | ⟨x, l, h12, hf, hne⟩
    · exact inc_end i hm hf w h
    · exact inc_task i hB hm x (by rw [h12]; simp) hf hne w h

/-- So many increments: none below 1. -/
theorem incs_any (i : Inv B G H R) (n : Int) (hn : n ≤ 1000000000) (hB : B + n.toNat ≤ 1000000000) (w : World) (h : Tr w q p b G H) :
    Calls Tryd.prog 15 #[.pointer (some ⟨q, 0, none⟩), .int .i64 n] w fun e w' => e = .returned (.tuple #[]) ∧ Tr w' q p b G (H.incs G n.toNat) ∧ Turns (Own3 q p b) w w' := by
  have II := Lib.hid (fun (j : Nat) (hj : j < n.toNat) w1 (h1 : Tr w1 q p b G (H.incs G j)) => inc_any (inv_incs i j (by omega)) (by omega) w1 h1)
  have IS : Hid (∀ j : Nat, H.incs G (j + 1) = (H.incs G j).inc G) := fun j => rfl
  have T0 : Tr w q p b G (H.incs G 0) := h
  clear h i hB
  generalize H.incs G = S at *
  go_enter Tryd.func15, Tryd.ntmps15
  go_wp2_with fail
  go_loopw [7] (fun c wr => ∃ j : Nat, j ≤ n.toNat ∧ c = .int .i64 j ∧ Tr wr q p b G (S j) ∧ Turns (Own3 q p b) w wr) (fun c _ => n.toNat - (intOf c).toNat)
  case atStart => exact ⟨0, by omega, rfl, T0, Turns.refl _ _⟩
  case round =>
    obtain ⟨j, hj, rfl, hs, hts⟩ := hrel
    by_cases hjn : (j : Int) < n
    · have IJ := Lib.hid (II.out j (by omega))
      have UJ : Hid (S (j + 1) = (S j).inc G) := IS.out j
      go_wp2_with (go_at_call 44; refine (IJ.out _ hs).mono ?_; rintro e w2 ⟨rfl, hs2, ht2⟩)
      go_roundw
      case rel => exact ⟨j + 1, by omega, by go_num, by rw [UJ.out]; exact hs2, hts.trans ht2⟩
      case measure => simp [intOf]; omega
    · have hs' : Hid (Tr wr q p b G (S n.toNat)) := by
        have : n.toNat = j := by omega
        rw [this]
        exact hs
      go_wp2_with fail
      go_end0
      exact ⟨rfl, hs'.out, hts⟩
theorem incs_nil (n : Int) (w : World) :
    Calls Tryd.prog 15 #[.pointer none, .int .i64 n] w fun e w' => e = .returned (.tuple #[]) ∧ w = w' := by
  go_enter Tryd.func15, Tryd.ntmps15
  go_wp2_with fail
  refine bodyPost_ret (results_none rfl _ _ _) rfl ?_
  exact ⟨rfl, rfl⟩
end
end Go.Proofs.YtclcnepkgjcmcaaDoor
