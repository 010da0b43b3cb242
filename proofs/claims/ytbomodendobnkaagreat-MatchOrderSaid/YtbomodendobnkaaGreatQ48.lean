/- MatchOrder: where the datum matches. -/
import Derived.Test.YtbomodendobnkaaGreatQ47
namespace Go.Proofs.YtbomodendobnkaaGreat
open Go.ChangeShapes Go.WideShapes Go.ChangeAt Go.RowKit Go.Deep
open MM (Bl Bm Var)

section
variable (w : World) (x y : RM.Dm) (u v lv : Value) (lits : List (List UInt8)) (dots : List UInt8)
set_option maxRecDepth 100000 in
set_option maxHeartbeats 16000000 in
theorem order_some (hu : Cn w u x.is) (hv : Cn w v y.is) (hx : Db x) (hy : Db y) (hl : Sn w lv lits) (hls : ∀ x ∈ lits, x.length ≤ maxLen) (hdl : dots.length ≤ maxLen)
    (hF0 : few12 lits dots = true) (hX0 : sm12 x = true) (hY0 : sm12 y = true) (l : Bl) (hR : mres true (MM.nms lits dots) Q0 x y = some l) :
    Calls Tryz.prog 3 #[dtv x u, dtv y v, lv, .string ⟨dots.toArray⟩] w fun e w' => e = .returned (.bool true) ∧ Went w w' := by
  obtain ⟨A, cA, rfl⟩ := hu.read
  obtain ⟨B, cB, rfl⟩ := hv.read
  obtain ⟨LA, Lc, rfl⟩ := hl.read
  have hq : lits.length ≤ 30 ∧ dots.length ≤ 100 ∧ (∀ x ∈ lits, x.length ≤ 100) := by
    unfold few12 at hF0
    simp only [Bool.and_eq_true, decide_eq_true_eq] at hF0
    exact ⟨hF0.1.1, hF0.1.2, hF0.2⟩
  have hzx : SM.sz x.is ≤ 5000 := by
    unfold sm12 at hX0
    simp only [Bool.and_eq_true, decide_eq_true_eq] at hX0
    omega
  have hzy : SM.sz y.is ≤ 5000 := by
    unfold sm12 at hY0
    simp only [Bool.and_eq_true, decide_eq_true_eq] at hY0
    omega
  obtain ⟨hll, hdl', hls'⟩ := hq
  have hA := Lib.hid (fun w => awake12_any w)
  have hN := Lib.hid (fun w => newx_any w)
  have hF := Lib.hid (fun (w' : World) (hb : Below w.heap.size w w') => few_any w' _ lits dots (hl.below hb) hls hdl)
  have hX := Lib.hid (fun (w' : World) (hb : Below w.heap.size w w') => sm12_any x w' _ (hu.below hb).in_)
  have hY := Lib.hid (fun (w' : World) (hb : Below w.heap.size w w') => sm12_any y w' _ (hv.below hb).in_)
  have hOx := Lib.hid (fun (w' : World) (hb : Below w.heap.size w w') => own_any x w' _ (hu.below hb).in_ hzx)
  have hOy := Lib.hid (fun (w' : World) (hb : Below w.heap.size w w') => own_any y w' _ (hv.below hb).in_ hzy)
  have hSn := Lib.hid (fun (w' : World) (hb : Below w.heap.size w w') => hl.below hb)
  have hM := Lib.hid (fun (w' : World) (p : Nat) (D : Nat → Prop) (hT : Tw w' p D tb0) (u v lv : Value) (hu : Cn w' u x.is) (hv : Cn w' v y.is) (hl : Sn w' lv lits) => fmatch_any w' p D hT x y u v lv lits dots hu hv hx hy hzx hzy hl (by omega) hls' hdl)
  have hV := Lib.hid (fun (w' : World) (u lv : Value) (hu : Cn w' u x.is) (hl : Sn w' lv lits) => mvars_any w' x u lv lits dots hu hx hzx hl (by omega) hls hdl)
  have hZ := Lib.hid (fun (w' : World) (hb : Below w.heap.size w w') => nmatch_any w' x y _ _ _ lits dots (hu.below hb) (hv.below hb) hx hy hzx hzy (hl.below hb) (by omega) hls hdl)
  rw [hF0] at hF
  rw [hX0] at hX
  rw [hY0] at hY
  have hmath := fun l h => @ord_math (MM.nms lits dots) x y l h
  obtain ⟨PT, hPT⟩ : ∃ PT, MM.pat (MM.nms lits dots) x = PT := ⟨_, rfl⟩
  simp only [hR] at hM hmath
  simp only [hPT] at hV hmath
  obtain ⟨vs, hPs, hlen, hmany, hmt⟩ := hmath l rfl
  subst hPs
  simp only [Option.getD_some] at hV
  have hmt := Lib.hid hmt
  clear hmath
  have hll' := Lib.hid hll
  clear hu hv hx hy hl hls hdl hF0 hX0 hY0 hll hdl' hls' hzx hzy hPT
  unfold dtv at hX hY hOx hOy hZ hM hV ⊢
  obtain ⟨LN, hLN⟩ : ∃ LN, lits.length = LN := ⟨_, rfl⟩
  rw [hLN] at hF hSn hZ ⊢
  obtain ⟨g0, L1, L2⟩ := two_boxes w #[.int .i64 x.k, .int .i64 x.n, .string ⟨x.s.toArray⟩, .slice A x.is.len cA] #[.int .i64 y.k, .int .i64 y.n, .string ⟨y.s.toArray⟩, .slice B y.is.len cB] 24 24
  have st0 : True := trivial
  go_enter Tryz.func3, Tryz.ntmps3
  go_wp2_with (first
    | (clear st0
       go_at_call 4
       refine (hA.out _).mono ?_
       rintro e w1 ⟨rfl, k1⟩
       have M1 := L1.below k1 (L1.lt)
       have M2 := L2.below k1 (L2.lt)
       have g1 := Lib.hid (g0.trans (k1.mono g0.size))
       clear k1
       have st1 : True := trivial)
    | (clear st1
       go_at_call 5
       refine (hF.out _ g1.out).mono ?_
       rintro e w2 ⟨rfl, k2⟩
       have N1 := M1.below k2 (M1.lt)
       have N2 := M2.below k2 (M2.lt)
       have x0 := N1.cell 0
       have x1 := N1.cell 1
       have x2 := N1.cell 2
       have x3 := N1.cell 3
       simp only [List.getElem?_cons_zero, List.getElem?_cons_succ] at x0 x1 x2 x3
       have g2 := Lib.hid (g1.out.trans (k2.mono g1.out.size))
       clear k2
       have st2 : True := trivial)
    | (clear st2
       go_at_call 6
       refine (hX.out _ g2.out).mono ?_
       rintro e w3 ⟨rfl, k3⟩
       have O1 := N1.below k3 (N1.lt)
       have O2 := N2.below k3 (N2.lt)
       have y0 := O2.cell 0
       have y1 := O2.cell 1
       have y2 := O2.cell 2
       have y3 := O2.cell 3
       simp only [List.getElem?_cons_zero, List.getElem?_cons_succ] at y0 y1 y2 y3
       have g3 := Lib.hid (g2.out.trans (k3.mono g2.out.size))
       clear k3
       have st3 : True := trivial)
    | (clear st3
       go_at_call 6
       refine (hY.out _ g3.out).mono ?_
       rintro e w4 ⟨rfl, k4⟩
       have P1 := O1.below k4 (O1.lt)
       have P2 := O2.below k4 (O2.lt)
       have g4 := Lib.hid (g3.out.trans (k4.mono g3.out.size))
       clear k4 x0 x1 x2 x3 y0 y1 y2 y3
       have st4 : True := trivial))
  clear L1 L2 M1 M2 N1 N2 O1 O2 g0 g1 g2 g3
  have hsz4 : w.heap.size + 1 < w4.heap.size := P2.lt
  have kk : w4.cell? ⟨w.heap.size, 0, none⟩ = some (.int .i64 x.k) ∧ w4.cell? ⟨w.heap.size, 1, none⟩ = some (.int .i64 x.n) ∧ w4.cell? ⟨w.heap.size, 2, none⟩ = some (.string ⟨x.s.toArray⟩) ∧ w4.cell? ⟨w.heap.size, 3, none⟩ = some (.slice A x.is.len cA) ∧ w4.cell? ⟨w.heap.size + 1, 0, none⟩ = some (.int .i64 y.k) ∧ w4.cell? ⟨w.heap.size + 1, 1, none⟩ = some (.int .i64 y.n) ∧ w4.cell? ⟨w.heap.size + 1, 2, none⟩ = some (.string ⟨y.s.toArray⟩) ∧ w4.cell? ⟨w.heap.size + 1, 3, none⟩ = some (.slice B y.is.len cB) := ⟨P1.cell 0, P1.cell 1, P1.cell 2, P1.cell 3, P2.cell 0, P2.cell 1, P2.cell 2, P2.cell 3⟩
  obtain ⟨k40, k41, k42, k43, k44, k45, k46, k47⟩ := kk
  go_region_held3 (fun w' => w'.cell? ⟨w.heap.size, 0, none⟩ = some (.int .i64 x.k) ∧ w'.cell? ⟨w.heap.size, 1, none⟩ = some (.int .i64 x.n) ∧ w'.cell? ⟨w.heap.size, 2, none⟩ = some (.string ⟨x.s.toArray⟩) ∧ w'.cell? ⟨w.heap.size, 3, none⟩ = some (.slice A x.is.len cA) ∧ w'.cell? ⟨w.heap.size + 1, 0, none⟩ = some (.int .i64 y.k) ∧ w'.cell? ⟨w.heap.size + 1, 1, none⟩ = some (.int .i64 y.n) ∧ w'.cell? ⟨w.heap.size + 1, 2, none⟩ = some (.string ⟨y.s.toArray⟩) ∧ w'.cell? ⟨w.heap.size + 1, 3, none⟩ = some (.slice B y.is.len cB)) (first | go_keep | with_reducible exact kx | with_reducible exact ky | with_reducible exact kz | with_reducible exact ka | with_reducible exact kb)
    (first
      | (clear st4
         go_at_call 8
         refine (hN.out _).mono ?_
         rintro e w5 ⟨p, D, rfl, hT5, k5'⟩
         have k5 : Went w4 w5 := by first | exact below_of_drew k5' | exact below_of_drew (Went.trans (m_box _ _ _) k5') | exact Went.trans (m_box _ _ _) (below_of_drew k5')
         have Q1 := P1.below k5 P1.lt
         have Q2 := P2.below k5 P2.lt
         have kx : w5.cell? ⟨w.heap.size, 0, none⟩ = some (.int .i64 x.k) ∧ w5.cell? ⟨w.heap.size, 1, none⟩ = some (.int .i64 x.n) ∧ w5.cell? ⟨w.heap.size, 2, none⟩ = some (.string ⟨x.s.toArray⟩) ∧ w5.cell? ⟨w.heap.size, 3, none⟩ = some (.slice A x.is.len cA) ∧ w5.cell? ⟨w.heap.size + 1, 0, none⟩ = some (.int .i64 y.k) ∧ w5.cell? ⟨w.heap.size + 1, 1, none⟩ = some (.int .i64 y.n) ∧ w5.cell? ⟨w.heap.size + 1, 2, none⟩ = some (.string ⟨y.s.toArray⟩) ∧ w5.cell? ⟨w.heap.size + 1, 3, none⟩ = some (.slice B y.is.len cB) := ⟨Q1.cell 0, Q1.cell 1, Q1.cell 2, Q1.cell 3, Q2.cell 0, Q2.cell 1, Q2.cell 2, Q2.cell 3⟩
         have g5 := Lib.hid (g4.out.trans (k5.mono g4.out.size))
         have s5 := k5.size
         clear k5 k5'
         have st5 : True := trivial)
      | (clear st5
         go_at_call 9
         refine (hOx.out _ (by first | exact g5.out | exact g5.out.alloc g5.out.size _)).mono ?_
         rintro e w6 ⟨vx, rfl, hD6, k6'⟩
         have k6 : Went w5 w6 := by first | exact k6' | exact Went.trans (m_box _ _ _) k6'
         have hC6 := hD6.cn
         have hT6 := hT5.below k6
         have R1 := Q1.below k6 Q1.lt
         have R2 := Q2.below k6 Q2.lt
         have ky : w6.cell? ⟨w.heap.size, 0, none⟩ = some (.int .i64 x.k) ∧ w6.cell? ⟨w.heap.size, 1, none⟩ = some (.int .i64 x.n) ∧ w6.cell? ⟨w.heap.size, 2, none⟩ = some (.string ⟨x.s.toArray⟩) ∧ w6.cell? ⟨w.heap.size, 3, none⟩ = some (.slice A x.is.len cA) ∧ w6.cell? ⟨w.heap.size + 1, 0, none⟩ = some (.int .i64 y.k) ∧ w6.cell? ⟨w.heap.size + 1, 1, none⟩ = some (.int .i64 y.n) ∧ w6.cell? ⟨w.heap.size + 1, 2, none⟩ = some (.string ⟨y.s.toArray⟩) ∧ w6.cell? ⟨w.heap.size + 1, 3, none⟩ = some (.slice B y.is.len cB) := ⟨R1.cell 0, R1.cell 1, R1.cell 2, R1.cell 3, R2.cell 0, R2.cell 1, R2.cell 2, R2.cell 3⟩
         have g6 := Lib.hid (g5.out.trans (k6.mono g5.out.size))
         have s6 := k6.size
         clear k6 k6' hD6
         have st6 : True := trivial)
      | (clear st6
         go_at_call 9
         refine (hOy.out _ (by first | exact g6.out | exact g6.out.alloc g6.out.size _)).mono ?_
         rintro e w7 ⟨vy, rfl, hD7, k7'⟩
         have k7 : Went w6 w7 := by first | exact k7' | exact Went.trans (m_box _ _ _) k7'
         have hC7 := hD7.cn
         have hC7x := hC6.below k7
         have hT7 := hT6.below k7
         have U1 := R1.below k7 R1.lt
         have U2 := R2.below k7 R2.lt
         have kz : w7.cell? ⟨w.heap.size, 0, none⟩ = some (.int .i64 x.k) ∧ w7.cell? ⟨w.heap.size, 1, none⟩ = some (.int .i64 x.n) ∧ w7.cell? ⟨w.heap.size, 2, none⟩ = some (.string ⟨x.s.toArray⟩) ∧ w7.cell? ⟨w.heap.size, 3, none⟩ = some (.slice A x.is.len cA) ∧ w7.cell? ⟨w.heap.size + 1, 0, none⟩ = some (.int .i64 y.k) ∧ w7.cell? ⟨w.heap.size + 1, 1, none⟩ = some (.int .i64 y.n) ∧ w7.cell? ⟨w.heap.size + 1, 2, none⟩ = some (.string ⟨y.s.toArray⟩) ∧ w7.cell? ⟨w.heap.size + 1, 3, none⟩ = some (.slice B y.is.len cB) := ⟨U1.cell 0, U1.cell 1, U1.cell 2, U1.cell 3, U2.cell 0, U2.cell 1, U2.cell 2, U2.cell 3⟩
         have g7 := Lib.hid (g6.out.trans (k7.mono g6.out.size))
         have s7 := k7.size
         clear k7 k7' hD7
         have st7 : True := trivial)
      | (clear st7
         refine step_append_sn0 (x := .slice LA LN Lc) (lx := lits) _ rfl _ _ 25 rfl Tryz.underlying25 rfl rfl (hSn.out _ (by first | exact g7.out | exact g7.out.alloc g7.out.size _)) (by have := hll'.out; omega) ?_
         intro v8 w8 sn8 k8'
         have k8 : Went w7 w8 := by first | exact k8' | exact Went.trans (m_box _ _ _) k8'
         have g8 := Lib.hid (g7.out.trans (k8.mono g7.out.size))
         have s8 := k8.size
         have hC8y := hC7.below k8
         have hC8x := hC7x.below k8
         have hT8 := hT7.below k8
         have V1 := U1.below k8 U1.lt
         have V2 := U2.below k8 U2.lt
         have ka : w8.cell? ⟨w.heap.size, 0, none⟩ = some (.int .i64 x.k) ∧ w8.cell? ⟨w.heap.size, 1, none⟩ = some (.int .i64 x.n) ∧ w8.cell? ⟨w.heap.size, 2, none⟩ = some (.string ⟨x.s.toArray⟩) ∧ w8.cell? ⟨w.heap.size, 3, none⟩ = some (.slice A x.is.len cA) ∧ w8.cell? ⟨w.heap.size + 1, 0, none⟩ = some (.int .i64 y.k) ∧ w8.cell? ⟨w.heap.size + 1, 1, none⟩ = some (.int .i64 y.n) ∧ w8.cell? ⟨w.heap.size + 1, 2, none⟩ = some (.string ⟨y.s.toArray⟩) ∧ w8.cell? ⟨w.heap.size + 1, 3, none⟩ = some (.slice B y.is.len cB) := ⟨V1.cell 0, V1.cell 1, V1.cell 2, V1.cell 3, V2.cell 0, V2.cell 1, V2.cell 2, V2.cell 3⟩
         clear k8 k8'
         have st8 : True := trivial)
      | (clear st8
         go_at_call 7
         refine (hM.out _ _ _ hT8 _ _ _ hC8x hC8y sn8).mono ?_
         intro e w9 hm
         obtain ⟨A9, c9, he9, hB9, k9⟩ := hm.some_
         rw [hlen] at he9 hB9
         subst he9
         clear hm
         have X1 := V1.below k9 V1.lt
         have X2 := V2.below k9 V2.lt
         have kb : w9.cell? ⟨w.heap.size, 0, none⟩ = some (.int .i64 x.k) ∧ w9.cell? ⟨w.heap.size, 1, none⟩ = some (.int .i64 x.n) ∧ w9.cell? ⟨w.heap.size, 2, none⟩ = some (.string ⟨x.s.toArray⟩) ∧ w9.cell? ⟨w.heap.size, 3, none⟩ = some (.slice A x.is.len cA) ∧ w9.cell? ⟨w.heap.size + 1, 0, none⟩ = some (.int .i64 y.k) ∧ w9.cell? ⟨w.heap.size + 1, 1, none⟩ = some (.int .i64 y.n) ∧ w9.cell? ⟨w.heap.size + 1, 2, none⟩ = some (.string ⟨y.s.toArray⟩) ∧ w9.cell? ⟨w.heap.size + 1, 3, none⟩ = some (.slice B y.is.len cB) := ⟨X1.cell 0, X1.cell 1, X1.cell 2, X1.cell 3, X2.cell 0, X2.cell 1, X2.cell 2, X2.cell 3⟩
         have g9 := Lib.hid (g8.out.trans (k9.mono g8.out.size))
         have s9 := k9.size
         clear k9
         have st9 : True := trivial))
  all_goals
    clear k40 k41 k42 k43 k44 k45 k46 k47
    clear P1 P2 Q1 Q2 R1 R2 U1 U2 V1 V2 g4 g5 g6 g7 g8 sn8 hC8x hC8y hC7 hC7x hC6 hT5 hT6 hT7 hT8 hM hN hA hF hX hY hOy kx ky kz ka s5 s6 s7 s8
    obtain ⟨z0, z1, z2, z3, z4, z5, z6, z7⟩ := kb
    go_wp2_with (first
        | (clear st9
           go_at_call 9
           refine (hOx.out _ g9.out).mono ?_
           rintro e w10 ⟨vx, rfl, hD10, k10⟩
           have hC10 := hD10.cn
           have Y1 := X1.below k10 X1.lt
           have Y2 := X2.below k10 X2.lt
           have g10 := Lib.hid (g9.out.trans (k10.mono g9.out.size))
           have s10 := k10.size
           have hB10 := hB9.kp (Kp.of_below k10)
           clear k10 hD10
           have st10 : True := trivial)
        | (clear st10
           at_builtin
           refine wpList_append_sn0 (x := .slice LA LN Lc) (lx := lits) w10.heap.size rfl _ _ 25 rfl Tryz.underlying25 rfl rfl (hSn.out _ (by first | exact g10.out | exact g10.out.alloc g10.out.size _)) (by have := hll'.out; omega) ?_
           intro v11 w11 sn11 k11'
           have k11 : Went w10 w11 := by first | exact k11' | exact Went.trans (m_box _ _ _) k11'
           have g11 := Lib.hid (g10.out.trans (k11.mono g10.out.size))
           have s11 := k11.size
           have hC11 := hC10.below k11
           have Z1 := Y1.below k11 Y1.lt
           have Z2 := Y2.below k11 Y2.lt
           have hB11 := hB10.kp (Kp.of_below k11)
           clear k11 k11'
           have st11 : True := trivial)
        | (clear st11
           go_at_call 10
           refine (hV.out _ _ _ hC11 sn11).mono ?_
           rintro e w12 ⟨k12, AV, cV, rfl, hrow⟩
           have G1 := Z1.below k12 Z1.lt
           have G2 := Z2.below k12 Z2.lt
           have g12 := Lib.hid (g11.out.trans (k12.mono g11.out.size))
           have s12 := k12.size
           have hB12 := hB11.kp (Kp.of_below k12)
           clear k12
           have st12 : True := trivial))
    clear X1 X2 Y1 Y2 Z1 Z2 g9 g10 g11 sn11 hC10 hC11 hB9 hB10 hB11 hV hOx hSn z0 z1 z2 z3 z4 z5 z6 z7
    have hrow' := Lib.hid hrow
    have hB13 := Lib.hid hB12
    have hsW := g12.out.size
    clear hrow hB12
    obtain ⟨W, hWe⟩ : ∃ z, z = w12 := ⟨_, rfl⟩
    subst hWe
    go_loopw [66] (fun v66 wr => ∃ (j : Nat), j ≤ vs.length ∧ v66 = .int .i64 j ∧ Below W.heap.size W wr) (fun v66 _ => vs.length - (intOf v66).toNat)
    case atStart => exact ⟨0, Nat.zero_le _, rfl, Below.refl _ _⟩
    case round =>
      obtain ⟨j, hj, rfl, hbr⟩ := hrel
      by_cases hlt : j < vs.length
      · obtain ⟨xv, hxv⟩ : ∃ xv, vs[j]? = some xv := ⟨_, List.getElem?_eq_getElem hlt⟩
        obtain ⟨hdp, b, hb1, hb2, hb3⟩ := hmt.out j xv hxv
        obtain ⟨gb, ob, rfl, hgb, e0, e1, -⟩ := ((hB13.out.kp (Kp.of_below hbr)) _ (Kp.refl _ _)).at_ hb1
        obtain ⟨AV', cV', ee, hr⟩ := own_read (own_turns hrow'.out (Turns.of_below hbr (fun _ => False)) (fun _ _ h => h))
        injection ee with ee1 ee2 ee3
        subst ee1
        clear ee2 ee3
        obtain ⟨gv, rfl, -, hgv, q0⟩ := hr (j * 2) (by omega)
        obtain ⟨gv', hgv', -, -, q1⟩ := hr (j * 2 + 1) (by omega)
        cases hgv'
        have p1 := prcs_at hxv
        rw [p1.1] at q0
        rw [p1.2] at q1
        rw [hb2] at e0
        rw [hb3] at e1
        have hsz := rep_size xv.dp
        clear hr p1 hb1 hb2 hb3 hxv
        have hbr' := Lib.hid hbr
        go_wp2_with fail
        go_quiet (fail)
        go_wp2_with fail
        go_roundw
        case rel => exact ⟨j + 1, by omega, by go_num, by first | exact hbr'.out | exact below_drewN hbr'.out _⟩
        case measure => simp [intOf]; omega
      · obtain rfl : j = vs.length := by omega
        have N1 := G1.below hbr G1.lt
        have N2 := G2.below hbr G2.lt
        have y0 := N1.cell 0
        have y1 := N1.cell 1
        have y2 := N1.cell 2
        have y3 := N1.cell 3
        have y4 := N2.cell 0
        have y5 := N2.cell 1
        have y6 := N2.cell 2
        have y7 := N2.cell 3
        simp only [List.getElem?_cons_zero, List.getElem?_cons_succ] at y0 y1 y2 y3 y4 y5 y6 y7
        have gr := Lib.hid (g12.out.trans (hbr.mono hsW))
        clear hbr
        go_wp2_with (
          go_at_call 7
          refine (hZ.out _ gr.out).mono ?_
          rintro e w15 ⟨rfl, k15⟩)
        go_ret
        exact ⟨rfl, gr.out.trans (k15.mono gr.out.size)⟩
end
end Go.Proofs.YtbomodendobnkaaGreat
