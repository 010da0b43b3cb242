/- A new heap. -/
import Derived.Test.YtclcnepkgjcmcaaDoorQ25
import Derived.Test.YtclcnepkgjcmcaaDoorQ11
import Derived.Deep.OwnRows
namespace Go.Proofs.YtclcnepkgjcmcaaDoor
open Go.ChangeShapes Go.WideShapes Go.ChangeAt Go.RowKit

theorem Tryd.infoU64 : (Tryd.prog.info? 36).map (fun i => (i.zero, i.size, i.bytes)) = some (some (.int .u64 0), 1, 8) := by kernel_rfl
theorem made_zero (n : Nat) : (madeCells #[Value.int .u64 0] n).toList = (List.replicate n (0 : Int)).map (Value.int .u64) ++ [] := by
  rw [toList_madeCells_one]
  simp
theorem store_new (n : Nat) (h : n ≤ 1048576) (w : World) :
    Calls Tryd.prog 29 #[.int .i64 n] w fun e w' => e = .returned (.tuple #[.pointer (some ⟨w.heap.size + 1, 0, none⟩), .nilIface]) ∧ Sto w' (w.heap.size + 1) w.heap.size (List.replicate n 0) ∧ Below w.heap.size w w' := by
  have hmk := run_make_row' (P := Tryd.prog) 99 36 (.int .u64 0) 8 Tryd.underlying99 Tryd.infoU64 rfl .i64 .i64 n (by omega) (by omega)
  have hl := Lies.made w 36 (madeCells #[Value.int .u64 0] n)
  have hl2 := Lies.made (w.alloc (.cells (madeCells #[Value.int .u64 0] n) 36)) 101 #[.slice (some ⟨w.heap.size, 0, none⟩) n n, .int .i64 0]
  have hl1 := hl.alloc (.cells #[.slice (some ⟨w.heap.size, 0, none⟩) n n, .int .i64 0] 101)
  rw [made_zero] at hl1
  have HH := Lib.hid hl1
  have HH2 := Lib.hid hl2
  clear hl hl1 hl2
  go_enter Tryd.func29, Tryd.ntmps29
  go_wp2
  go_ret2
  refine ⟨rfl, ⟨0, n, [], by simp, ?_, HH.out⟩, ((Below.refl _ _).alloc (by omega) _).alloc (by simp) _⟩
  have := HH2.out
  simpa using this

section
variable {G : Geo} {H : Hp} {q p b : Nat}

theorem lay_any (g : G.ok) (H : Hp) (hws : H.ws = List.replicate G.top.toNat 0) (w : World) (h : Tr w q p b G H) :
    Calls Tryd.prog 30 #[.pointer (some ⟨q, 0, none⟩)] w fun e w' => e = .returned (.tuple #[]) ∧ Tr w' q p b G { H with ws := G.fresh.ws } ∧ Turns (Own3 q p b) w w' := by
  have hl := g.lines
  have hlen : H.ws.length = G.top.toNat := by rw [hws, List.length_replicate]
  have VV := Lib.hid (fun w => void_any w)
  have S1 := Lib.hid (fun (j : Nat) (hj : j < 12) w1 (h1 : Tr w1 q p b G { H with ws := layRegs H.ws j }) => hset_any (j : Int) 12 w1 h1 (by
    show inside (layRegs H.ws j).length (j : Int) = true
    rw [layRegs_len]
    exact inside_mk (by omega) (by omega)))
  have C1 : Hid (∀ j : Nat, layRegs H.ws (j + 1) = sv (layRegs H.ws j) (j : Int) 12) := fun j => rfl
  have T1 : Tr w q p b G { H with ws := layRegs H.ws 0 } := h
  have HD := Lib.hid (fun r (hr : r < 1000) w => head_any r hr w)
  have S2 := Lib.hid (fun (j : Nat) (hj : j < 13) w1 (h1 : Sto w1 p b (layHeads (layRegs H.ws 12) j)) => ring_Init p b (layHeads (layRegs H.ws 12) j) (hd j) w1 h1 (by rw [layHeads_len, layRegs_len]; omega) (by rw [layHeads_len, layRegs_len]; exact hd_pl (by omega) hj))
  have C2 : Hid (∀ j : Nat, layHeads (layRegs H.ws 12) (j + 1) = ini (layHeads (layRegs H.ws 12) j) (hd j)) := fun j => rfl
  have C20 : Hid (layHeads (layRegs H.ws 12) 0 = layRegs H.ws 12) := rfl
  have C3 : Hid (G.layAll G.ground 0 = layHeads (layRegs H.ws 12) 13) := by rw [hws]; exact rfl
  have S4 := Lib.hid (fun (c : Nat) (hc : c < 4) (j : Nat) (hj : j < G.cnt c) w1 (h1 : Sto w1 p b (G.layCells c (G.layAll G.ground c) j)) => by
    obtain ⟨a1, a2, a3⟩ := lay_all g c (by omega)
    have k := (lay_cells g hc a1 a3 j (by omega)).2.2.2 hj
    exact ring_Insert p b (G.layCells c (G.layAll G.ground c) j) (G.layAt c j) (G.place c j) w1 h1 k.short k.pa k.pb k.px)
  have C4 : Hid (∀ c j : Nat, G.layCells c (G.layAll G.ground c) (j + 1) = ins (G.layCells c (G.layAll G.ground c) j) (G.layAt c j) (G.place c j)) := fun c j => rfl
  have C40 : Hid (∀ c : Nat, G.layCells c (G.layAll G.ground c) 0 = G.layAll G.ground c) := fun c => rfl
  have C41 : Hid (∀ c : Nat, G.layAll G.ground (c + 1) = G.layCells c (G.layAll G.ground c) (G.cnt c)) := fun c => rfl
  have L0 : Hid (∀ c : Nat, G.layAt c 0 = hd c) := fun c => rfl
  have L1 : Hid (∀ c j : Nat, G.layAt c (j + 1) = G.place c j) := fun c j => rfl
  have LN := Lib.hid (fun c (hc : c < 4) w (ht : Tab w) => length_any c hc w ht)
  have NM := Lib.hid (fun c (hc : c < 4) => g.num hc)
  have CN := Lib.hid (fun c (hc : c < 4) => g.cnt hc)
  have E : Hid (G.fresh.ws = G.layAll G.ground 4) := rfl
  rw [E.out]
  clear h hws hlen hl
  generalize G.layAll G.ground = L at *
  generalize layHeads (layRegs H.ws 12) = K at *
  generalize layRegs H.ws = J at *
  go_enter Tryd.func30, Tryd.ntmps30
  go_wp2_with fail
  go_loopw [9] (fun c wr => ∃ j : Nat, j ≤ 12 ∧ c = .int .i64 j ∧ Tr wr q p b G { H with ws := J j } ∧ Turns (Own3 q p b) w wr) (fun c _ => 12 - (intOf c).toNat)
  case atStart => exact ⟨0, by omega, rfl, T1, Turns.refl _ _⟩
  case round =>
    obtain ⟨j, hj, rfl, hs, hts⟩ := hrel
    by_cases hj12 : j < 12
    · have SJ := Lib.hid (S1.out j hj12)
      have CJ := Lib.hid (C1.out j)
      go_wp2_with (first
        | (go_at_call 14; refine (VV.out _).mono ?_; rintro e w' ⟨rfl, rfl⟩)
        | (go_at_call 55; refine (SJ.out _ hs).mono ?_; rintro e w2 ⟨rfl, hs2, ht2⟩))
      go_roundw
      case rel => exact ⟨j + 1, by omega, by go_num, by rw [CJ.out]; exact hs2, hts.trans (own_of_pb ht2)⟩
      case measure => simp [intOf]; omega
    · have hs1 : Hid (Tr wr q p b G { H with ws := K 0 }) := by
        have : j = 12 := by omega
        rw [C20.out, ← this]
        exact hs
      obtain ⟨wo, hwo⟩ : ∃ wo : World, wo = wr := ⟨_, rfl⟩
      subst hwo
      clear hs
      go_wp2_with fail
      go_loopw [17] (fun c wr => ∃ j : Nat, j ≤ 13 ∧ c = .int .i64 j ∧ Tr wr q p b G { H with ws := K j } ∧ Turns (Own3 q p b) w wr) (fun c _ => 13 - (intOf c).toNat)
      case atStart => exact ⟨0, by omega, rfl, hs1.out, hts⟩
      case round =>
        obtain ⟨r, hr, rfl, hs2, hts2⟩ := hrel
        by_cases hr13 : r < 13
        · have SJ := Lib.hid (S2.out r hr13)
          have CJ := Lib.hid (C2.out r)
          have HR := Lib.hid (fun w => HD.out r (by omega) w)
          have c0 := hs2.ptr
          have hs2' := Lib.hid hs2
          have T2 := Lib.hid (fun w1 (k1 : Turns (fun k => k = p ∨ k = b) wr w1) s1 => hs2.stored (ws := ini (K r) (hd r)) k1 s1)
          clear hs2
          generalize hd r = d at *
          go_wp2_with fail
          go_region_held3 (fun w' => w'.cell? ⟨q, 0, none⟩ = some (.pointer (some ⟨p, 0, none⟩))) (first | go_keep | exact c2)
            (first
              | (go_at_call 33
                 refine (HR.out _).mono ?_
                 rintro e w2 ⟨rfl, rfl⟩)
              | (go_at_call 58
                 refine (SJ.out _ hs2'.out.words.drew).mono ?_
                 rintro e w2 ⟨rfl, hs3, ht3⟩
                 have c2 := (T2.out w2 ht3.of_drew hs3).ptr))
          have hs4 := T2.out w2 ht3.of_drew hs3
          have ht4 := hts2.trans (own_of_pb (q := q) ht3.of_drew)
          clear c2 hs3 ht3 c0 hs2'
          go_wp2_with fail
          go_roundw
          case rel => exact ⟨r + 1, by omega, by go_num, by rw [CJ.out]; exact hs4, ht4⟩
          case measure => simp [intOf]; omega
        · have hs3 : Hid (Tr wr q p b G { H with ws := L 0 }) := by
            have : r = 13 := by omega
            rw [C3.out, ← this]
            exact hs2
          have c1 : wr.cell? ⟨q, 1, none⟩ = some (.int .i64 G.n.a) := hs2.here.cell 1
          have c2 : wr.cell? ⟨q, 2, none⟩ = some (.int .i64 G.n.b) := hs2.here.cell 2
          have c3 : wr.cell? ⟨q, 3, none⟩ = some (.int .i64 G.n.c) := hs2.here.cell 3
          have c4 : wr.cell? ⟨q, 4, none⟩ = some (.int .i64 G.n.d) := hs2.here.cell 4
          clear hs2
          go_wp2_with fail
          go_loopw [32] (fun v wr => ∃ c : Nat, c ≤ 4 ∧ v = .int .i64 c ∧ Tr wr q p b G { H with ws := L c } ∧ Turns (Own3 q p b) w wr) (fun v _ => 4 - (intOf v).toNat)
          case atStart => exact ⟨0, by omega, rfl, hs3.out, hts2⟩
          case round =>
            obtain ⟨c, hc, rfl, hs5, hts5⟩ := hrel
            by_cases hc4 : c < 4
            · have hx : ∀ w, (Instr.index 27 (.agg #[.int .i64 G.n.a, .int .i64 G.n.b, .int .i64 G.n.c, .int .i64 G.n.d]) (.int .i64 (c : Int))).run Tryd.prog w = .ok (.int .i64 (G.n.at_ c)) w := index_four G.n c hc4
              have SC := Lib.hid (S4.out c hc4)
              have CC := Lib.hid (C4.out c)
              have HC := Lib.hid (fun w => HD.out c (by omega) w)
              have LC := Lib.hid (fun w ht => LN.out c hc4 w ht)
              have L0c := Lib.hid (L0.out c)
              have L1c := Lib.hid (L1.out c)
              have C41c := Lib.hid (C41.out c)
              obtain ⟨n0, n1, s0, s1⟩ := NM.out c hc4
              obtain ⟨cn, cm⟩ := CN.out c hc4
              have hs6 : Hid (Tr wr q p b G { H with ws := G.layCells c (L c) 0 }) := by
                unfold Hid
                rw [C40.out]
                exact hs5
              have P : Hid (∀ i : Nat, G.place c i = G.bas.at_ c + i * ln c) := fun i => rfl
              have l0 := ln_lo c
              have l1 := ln_hi c
              have BA := Lib.hid (fun w1 ws (h1 : Tr w1 q p b G { H with ws := ws }) => h1.base hc4)
              have hw0 : IntKind.i64.wrap (0 + (c : Int)) = (c : Int) := by rw [Int.zero_add]; exact IntWalk.i64_in _ (by omega)
              have hw00 : IntKind.i64.wrap (c : Int) = (c : Int) := IntWalk.i64_in _ (by omega)
              have k0 : (0 : Int) ≤ (c : Int) := by omega
              have k1 : (c : Int) < 4 := by omega
              clear hs5
              generalize G.bas.at_ c = sb at *
              generalize G.n.at_ c = nn at *
              generalize ln c = ll at *
              generalize G.layCells c (L c) = F at *
              generalize G.cnt c = m at *
              generalize G.layAt c = A at *
              generalize G.place c = Q at *
              generalize hd c = d at *
              have CNH := Lib.hid cn
              have cn0 : (m : Int) ≤ nn := by omega
              have cn1 : nn ≤ (m : Int) := by omega
              clear cn
              obtain ⟨w5, hw5⟩ : ∃ w5 : World, w5 = wr := ⟨_, rfl⟩
              subst hw5
              go_wp2_with (go_at_call 33; refine (HC.out _).mono ?_; rintro e w2 ⟨rfl, rfl⟩)
              clear hw0 hw00
              go_loopw [6, 40] (fun a v wr => ∃ i : Nat, i ≤ m ∧ a = .int .i64 (A i) ∧ v = .int .i64 i ∧ Tr wr q p b G { H with ws := F i } ∧ Turns (Own3 q p b) w wr) (fun _ v _ => m - (intOf v).toNat)
              case atStart => exact ⟨0, by omega, by rw [L0c.out], rfl, hs6.out, hts5⟩
              case round =>
                obtain ⟨i, hi, rfl, rfl, hs7, hts7⟩ := hrel
                by_cases him : i < m
                · have SI := Lib.hid (SC.out i him)
                  have CI := Lib.hid (CC.out i)
                  have L1i := Lib.hid (L1c.out i)
                  have hp0 : 0 ≤ (i : Int) * ll := Int.mul_nonneg (by omega) (by omega)
                  have hp1 : (i : Int) * ll ≤ 520000 := Int.le_trans (Int.mul_le_mul (show (i : Int) ≤ 4000 by omega) l1 (by omega) (by omega)) (by decide)
                  have hwp : IntKind.i64.wrap ((i : Int) * ll) = (i : Int) * ll := IntWalk.i64_in _ (by omega)
                  have hws : IntKind.i64.wrap (sb + (i : Int) * ll) = sb + (i : Int) * ll := IntWalk.i64_in _ (by omega)
                  have PI := Lib.hid (P.out i)
                  have cb := BA.out _ _ hs7
                  have LW := Lib.hid (fun n => LC.out (wr.drewN n) (hs7.drewN n).tab)
                  have hil : (i : Int) < nn := by omega
                  have hs8 := Lib.hid hs7
                  have HWP := Lib.hid hwp
                  have HWS := Lib.hid hws
                  have HP0 := Lib.hid hp0
                  have HP1 := Lib.hid hp1
                  clear hs7 hp0 hp1 hwp hws
                  generalize hprod : (i : Int) * ll = pr at *
                  have hwp : IntKind.i64.wrap ((i : Int) * ll) = pr := by rw [hprod]; exact HWP.out
                  have hws : IntKind.i64.wrap (sb + pr) = sb + pr := HWS.out
                  clear hprod
                  go_wp2_with fail
                  go_quiet ((go_at_call 28; exact quiet_left (LW.out _)))
                  have hs9 := hs8.out.drewN nq
                  have ht9 := hts7.drewN nq
                  generalize wr.drewN nq = w9 at *
                  have c9 := hs9.ptr
                  go_wp2_with (go_at_call 59; rw [← PI.out]; refine (SI.out _ hs9.words).mono ?_; rintro e w10 ⟨rfl, hs10, ht10⟩)
                  go_roundw
                  case rel => exact ⟨i + 1, by omega, by rw [L1i.out, PI.out], by go_num, by rw [CI.out]; exact hs9.stored ht10 hs10, ht9.trans (own_of_pb ht10)⟩
                  case measure => simp [intOf]; omega
                · have hs8 : Hid (Tr wr q p b G { H with ws := L (c + 1) }) := by
                    have : i = m := by omega
                    unfold Hid
                    rw [C41c.out, ← this]
                    exact hs7
                  clear hs7
                  go_wp2_with fail
                  go_roundw
                  case rel => exact ⟨c + 1, by omega, by go_num, hs8.out, hts7⟩
                  case measure => simp [intOf]; omega
            · have hs6 : Hid (Tr wr q p b G { H with ws := L 4 }) := by
                have : c = 4 := by omega
                unfold Hid
                rw [← this]
                exact hs5
              clear hs5
              go_wp2_with fail
              go_end0
              exact ⟨rfl, hs6.out, hts5⟩
end
end Go.Proofs.YtclcnepkgjcmcaaDoor

/- New. -/
namespace Go.Proofs.YtclcnepkgjcmcaaDoor
open Go.ChangeShapes Go.WideShapes Go.ChangeAt Go.RowKit

/-- where the cells of a size begin, while New reckons it -/
def Geo.from_ (G : Geo) (c : Nat) : Int := if c = 0 then 51 else if c = 1 then G.b1 else if c = 2 then G.b2 else if c = 3 then G.b3 else G.top
def Geo.part (G : Geo) (c : Nat) (i : Nat) : Int := if i < c then G.from_ i else 0
def Geo.newCells (G : Geo) (c : Nat) : List Value :=
  [.pointer none, .int .i64 G.n.a, .int .i64 G.n.b, .int .i64 G.n.c, .int .i64 G.n.d, .int .i64 (G.part c 0), .int .i64 (G.part c 1), .int .i64 (G.part c 2), .int .i64 (G.part c 3), .int .i64 G.k,
    .int .i64 G.n.a, .int .i64 G.n.b, .int .i64 G.n.c, .int .i64 G.n.d, .int .i64 0, .int .i64 0, .int .i64 0, .int .i64 0, .int .i64 0, .int .i64 0, .bool false, .int .i64 0]
theorem newCells_next (G : Geo) {c : Nat} (hc : c < 4) : (G.newCells c).set (5 + c) (.int .i64 (G.from_ c)) = G.newCells (c + 1) := by
  rcases lt4 hc with rfl | rfl | rfl | rfl <;> rfl
theorem newCells_all (G : Geo) (p : Nat) (ws : List Int) : (G.newCells 4).set 0 (.pointer (some ⟨p, 0, none⟩)) = Hp.cells G ⟨ws, G.n, ⟨0, 0, 0, 0⟩, 0, 0, false, 0⟩ p := rfl
theorem from_next (G : Geo) {c : Nat} (hc : c < 4) : G.from_ (c + 1) = G.from_ c + G.n.at_ c * ln c := by
  rcases lt4 hc with rfl | rfl | rfl | rfl
  · show 51 + 6 * G.n.a = 51 + G.n.a * 6; omega
  · show G.b1 + 10 * G.n.b = G.b1 + G.n.b * 10; omega
  · show G.b2 + 34 * G.n.c = G.b2 + G.n.c * 34; omega
  · show G.b3 + 130 * G.n.d = G.b3 + G.n.d * 130; omega
theorem from_bd {G : Geo} (g : G.ok) (c : Nat) : 51 ≤ G.from_ c ∧ G.from_ c ≤ 1048576 := by
  have := g.lines
  unfold Geo.from_
  (repeat' split) <;> omega

set_option maxRecDepth 100000 in
theorem new_yes (G : Geo) (g : G.ok) (w : World) (ht : Tab w) :
    Calls Tryd.prog 10 #[.agg #[.int .i64 G.n.a, .int .i64 G.n.b, .int .i64 G.n.c, .int .i64 G.n.d], .int .i64 G.k] w fun e w' =>
      ∃ q p b, e = .returned (.tuple #[.pointer (some ⟨q, 0, none⟩), .nilIface]) ∧ Tr w' q p b G G.fresh ∧ Below w.heap.size w w' ∧ w.heap.size ≤ q ∧ w.heap.size ≤ p ∧ w.heap.size ≤ b := by
  obtain ⟨-, -, -, -, -, -, -, -, k0, k1, -⟩ := id g
  have NM := Lib.hid (fun c (hc : c < 4) => g.num hc)
  have FB := Lib.hid (fun c => from_bd g c)
  have LN := Lib.hid (fun c (hc : c < 4) w (ht : Tab w) => length_any c hc w ht)
  have FN := Lib.hid (fun c (hc : c < 4) => from_next G hc)
  have NN := Lib.hid (fun c (hc : c < 4) => newCells_next G hc)
  have hl := g.lines
  have htop : G.from_ 4 = (G.top.toNat : Int) := by
    show G.top = _
    omega
  have SN := Lib.hid (fun w => store_new G.top.toNat (by omega) w)
  have LY := Lib.hid (fun w q p b H hws h => lay_any (q := q) (p := p) (b := b) g H hws w h)
  have TP := Lib.hid htop
  have TB := Lib.hid ht
  clear htop hl ht
  generalize G.top.toNat = N at *
  have HM : Hid (Lies ((w.alloc (.cells #[.int .i64 G.n.a, .int .i64 G.n.b, .int .i64 G.n.c, .int .i64 G.n.d] 27)).alloc (.cells (G.newCells 0).toArray 71)) (w.heap.size + 1) 71 (G.newCells 0)) := by
    have := Lies.made (w.alloc (.cells #[.int .i64 G.n.a, .int .i64 G.n.b, .int .i64 G.n.c, .int .i64 G.n.d] 27)) 71 (G.newCells 0).toArray
    unfold Hid
    simpa using this
  go_enter Tryd.func10, Tryd.ntmps10
  go_wp2_with fail
  go_loopw [7, 25] (fun e v wr => ∃ c : Nat, c ≤ 4 ∧ e = .int .i64 (G.from_ c) ∧ v = .int .i64 c ∧ Lies wr (w.heap.size + 1) 71 (G.newCells c) ∧ Below w.heap.size w wr ∧ w.heap.size + 2 ≤ wr.heap.size) (fun _ v _ => 4 - (intOf v).toNat)
  case atStart => exact ⟨0, by omega, rfl, rfl, HM.out, ((Below.refl _ _).alloc (Nat.le_refl _) _).alloc (by simp) _, by simp⟩
  case round =>
    obtain ⟨c, hc, rfl, rfl, hL, hB, hz⟩ := hrel
    by_cases hc4 : c < 4
    · have hx : ∀ w, (Instr.index 27 (.agg #[.int .i64 G.n.a, .int .i64 G.n.b, .int .i64 G.n.c, .int .i64 G.n.d]) (.int .i64 (c : Int))).run Tryd.prog w = .ok (.int .i64 (G.n.at_ c)) w := index_four G.n c hc4
      obtain ⟨n0, n1, -, -⟩ := NM.out c hc4
      obtain ⟨e0, e1⟩ := FB.out c
      obtain ⟨d0, d1⟩ := FB.out (c + 1)
      have FC := Lib.hid (FN.out c hc4)
      have NC := Lib.hid (NN.out c hc4)
      have l0 := ln_lo c
      have l1 := ln_hi c
      have hp0 : 0 ≤ G.n.at_ c * ln c := Int.mul_nonneg n0 (by omega)
      have hp1 : G.n.at_ c * ln c ≤ 520000 := Int.le_trans (Int.mul_le_mul n1 l1 (by omega) (by omega)) (by decide)
      have hwp : IntKind.i64.wrap (G.n.at_ c * ln c) = G.n.at_ c * ln c := IntWalk.i64_in _ (by omega)
      have HWP := Lib.hid hwp
      have hS := hL.stored (5 + c) (.int .i64 (G.from_ c))
      rw [NC.out] at hS
      have hcc : wr.cell? ⟨w.heap.size + 1, 5 + c, none⟩ = some (.int .i64 0) := by
        rw [hL.cell]
        rcases lt4 hc4 with rfl | rfl | rfl | rfl <;> rfl
      have hff := hL.free (5 + c)
      have hB2 := hB.setCell (p := ⟨w.heap.size + 1, 5 + c, none⟩) (by simp) (.int .i64 (G.from_ c))
      have hT := TB.out.turns (Turns.of_below hB2 (fun _ => False)) (fun h => h)
      have LL := Lib.hid (LN.out c hc4 _ hT)
      have k0 : (0 : Int) ≤ (c : Int) := by omega
      have k4 : (c : Int) < 4 := by omega
      have hSH := Lib.hid hS
      clear hwp hS hT hL
      generalize G.n.at_ c = nn at *
      generalize ln c = ll at *
      generalize hpr : nn * ll = pr at *
      have hwp : IntKind.i64.wrap (nn * ll) = pr := by rw [hpr]; exact HWP.out
      have hws : IntKind.i64.wrap (G.from_ c + pr) = G.from_ c + pr := IntWalk.i64_in _ (by omega)
      clear hpr
      generalize hfc : G.from_ c = fc at *
      clear hfc
      go_wp2_with (go_at_call 28; refine LL.out.mono ?_; rintro e w2 ⟨rfl, rfl⟩)
      go_roundw
      case rel => exact ⟨c + 1, by omega, by rw [FC.out], by go_num, hSH.out, hB2, by simpa using hz⟩
      case measure => simp [intOf]; omega
    · have e4 : c = 4 := by omega
      have hL4 : Hid (Lies wr (w.heap.size + 1) 71 (G.newCells 4)) := by
        unfold Hid
        rw [← e4]
        exact hL
      have TP' : Hid (G.from_ c = (N : Int)) := by
        unfold Hid
        rw [e4]
        exact TP.out
      clear e4 hL
      rw [TP'.out]
      clear TP'
      go_wp2_with (
        go_at_call 29
        refine (SN.out _).mono ?_
        rintro e w2 ⟨rfl, hs2, hb2⟩
        have hL2 := hL4.out.below hb2 (by omega)
        have c0 : w2.cell? ⟨w.heap.size + 1, 0, none⟩ = some (.pointer none) := hL2.cell 0
        have f0 := hL2.free 0)
      have hz2 := hs2.lt
      have hL3 := hL2.stored 0 (.pointer (some ⟨wr.heap.size + 1, 0, none⟩))
      rw [newCells_all G (wr.heap.size + 1) (List.replicate N 0)] at hL3
      have hB2 : Below w.heap.size w w2 := hB.trans (hb2.mono (by omega))
      have hB3 := hB2.setCell (p := ⟨w.heap.size + 1, 0, none⟩) (by simp) (.pointer (some ⟨wr.heap.size + 1, 0, none⟩))
      have hT3 := TB.out.turns (Turns.of_below hB3 (fun _ => False)) (fun h => h)
      have tg := TB.out.1
      have hs3 := hs2.turns ((Turns.refl (· = w.heap.size + 1) w2).setCell (p := ⟨w.heap.size + 1, 0, none⟩) (fun _ => rfl) (.pointer (some ⟨wr.heap.size + 1, 0, none⟩))) (by omega) (by omega)
      have hTr : Tr (w2.setCell ⟨w.heap.size + 1, 0, none⟩ (.pointer (some ⟨wr.heap.size + 1, 0, none⟩))) (w.heap.size + 1) (wr.heap.size + 1) wr.heap.size G ⟨List.replicate N 0, G.n, ⟨0, 0, 0, 0⟩, 0, 0, false, 0⟩ :=
        ⟨hT3, by omega, hL3, hs3⟩
      have hTH := Lib.hid hTr
      clear hTr hL3 hs3 hT3 hL2
      go_wp2_with (
        go_at_call 30
        refine (LY.out _ _ _ _ _ rfl hTH.out).mono ?_
        rintro e w4 ⟨rfl, hs4, ht4⟩)
      go_ret2
      exact ⟨_, _, _, rfl, hs4, hB3.trans (ht4.below (by have := hB3.size; omega) (fun i hi => by unfold Own3 at hi; omega)), by omega, by omega, by omega⟩
end Go.Proofs.YtclcnepkgjcmcaaDoor
