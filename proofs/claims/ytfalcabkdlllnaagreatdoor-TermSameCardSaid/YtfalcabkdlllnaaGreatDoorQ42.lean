/- The law TermChecks, walked. -/
import Derived.Test.YtfalcabkdlllnaaGreatDoorQ33
import Derived.Test.YtfalcabkdlllnaaGreatDoorQ39
import Derived.Test.YtfalcabkdlllnaaGreatDoorQ40
import Derived.Test.YtfalcabkdlllnaaGreatDoorQ32
import Derived.Test.YtfalcabkdlllnaaGreatDoorQ7
import Derived.Deep.RegionHeld3
import Derived.Test.YtfalcabkdlllnaaGreatDoorQ41
namespace Go.Proofs.YtfalcabkdlllnaaGreatDoor
open Go.ChangeShapes Go.WideShapes Go.ChangeAt Go.RowKit Go.Deep
open TM (Tl Tm)

theorem smt_facts {t : Tm} (h : TM.smt t = true) : TM.sd1 t = true ∧ TM.sz t.ks + 1 < 5000 ∧ (t.ps ++ TM.prs t.ks).length ≤ 1000000 := by
  have h2 := TM.smt_prs h
  simp only [TM.smt, Bool.and_eq_true, decide_eq_true_eq] at h
  exact ⟨h.2, h.1.2, h2⟩
set_option maxRecDepth 100000 in
set_option maxHeartbeats 8000000 in
theorem termChecks_of (hSame : SameAny) (t : Tm) (w : World) (vp vi vk : Value) (h : TmIn w t vp vi vk) (hB : TmBd t) (hT : Tab w) :
    Calls Tryz.prog 3 #[tmv t vp vi vk] w fun e w' => e = .returned (.bool true) ∧ Below w.heap.size w w' := by
  have hA := Lib.hid (fun (w' : World) (hb : Below w.heap.size w w') => awake10_of hSame w' (hT.on hb))
  have hS := Lib.hid (fun (w' : World) (hb : Below w.heap.size w w') => tsmall_any t w' vp vi vk (h.below hb))
  unfold tmv at hS
  unfold tmv
  have hL := Lies.made w 28 #[.int .i64 t.k, .int .i64 t.n, .string ⟨t.s.toArray⟩, vp, .int .i64 t.d.k, .int .i64 t.d.n, .string ⟨t.d.s.toArray⟩, vi, vk]
  have hb0 : Below w.heap.size w (w.alloc (.cells #[.int .i64 t.k, .int .i64 t.n, .string ⟨t.s.toArray⟩, vp, .int .i64 t.d.k, .int .i64 t.d.n, .string ⟨t.d.s.toArray⟩, vi, vk] 28)) := (Below.refl _ w).alloc (Nat.le_refl _) _
  cases hsm : TM.smt t
  · rw [hsm] at hS
    clear h hB hT hSame hsm
    go_enter Tryz.func3, Tryz.ntmps3
    go_wp2_with (first
      | (go_at_call 7
         refine (hA.out _ hb0).mono ?_
         rintro e w1 ⟨rfl, hb1⟩
         have hM1 := hL.below hb1 hL.lt
         have c1 := hb0.trans (Below.mono hb1 hb0.size)
         have z0 := hM1.cell 0
         have z1 := hM1.cell 1
         have z2 := hM1.cell 2
         have z3 := hM1.cell 3
         have z4 := hM1.cell 4
         have z5 := hM1.cell 5
         have z6 := hM1.cell 6
         have z7 := hM1.cell 7
         have z8 := hM1.cell 8
         simp only [List.getElem?_cons_succ, List.getElem?_cons_zero] at z0 z1 z2 z3 z4 z5 z6 z7 z8
         clear hb1)
      | (go_at_call 8
         refine (hS.out _ c1).mono ?_
         rintro e w2 ⟨rfl, hb2⟩
         have hM2 := hM1.below hb2 hM1.lt
         have c2 := c1.trans (Below.mono hb2 c1.size)
         have y0 := hM2.cell 0
         have y1 := hM2.cell 1
         have y2 := hM2.cell 2
         have y3 := hM2.cell 3
         have y4 := hM2.cell 4
         have y5 := hM2.cell 5
         have y6 := hM2.cell 6
         have y7 := hM2.cell 7
         have y8 := hM2.cell 8
         simp only [List.getElem?_cons_succ, List.getElem?_cons_zero] at y0 y1 y2 y3 y4 y5 y6 y7 y8
         clear hb2 z0 z1 z2 z3 z4 z5 z6 z7 z8)
      | (go_at_call 7; refine (hA.out _ c2).mono ?_; rintro e w3 ⟨rfl, hb3⟩))
    go_ret
    exact ⟨rfl, c2.trans (Below.mono hb3 c2.size)⟩
  · rw [hsm] at hS
    obtain ⟨hsd, hsz, hpl⟩ := smt_facts hsm
    have hO := Lib.hid (fun (w' : World) (hb : Below w.heap.size w w') => town_any t w' vp vi vk (h.below hb) hsd (by omega))
    have hK := Lib.hid (fun (w' : World) (v1 v2 v3 : Value) (hi : TmIn w' t v1 v2 v3) => tcheck_any t w' v1 v2 v3 hi hB)
    have hP := Lib.hid (fun (w' : World) (v1 v2 v3 : Value) (hi : TmIn w' t v1 v2 v3) => parts_any t v1 v2 v3 w' hi)
    have hQ := Lib.hid (fun (w' : World) (hb : Below w.heap.size w w') => trparts_any t w' vp vi vk (h.below hb))
    have hR := Lib.hid (fun (w' : World) (hb : Below w.heap.size w w') => tright_any t w' vp vi vk (h.below hb) hB hpl)
    obtain ⟨Y, hY⟩ : ∃ Y : Int, ((TM.sz t.ks : Int) + 1) = Y := ⟨_, rfl⟩
    have hY1 : ((min (TM.sz t.ks + 1) 5000 : Nat) : Int) = Y := by omega
    have hY2 : ∀ y : Int, y = min ((TM.sz t.ks : Int) + 1) 5000 → y = Y := fun y hy => by omega
    have hY2' := Lib.hid hY2
    unfold CtN at hQ
    rw [hY1] at hP
    unfold tmv at hO hK hP hQ hR
    obtain ⟨ok, hok⟩ : ∃ ok, TM.okt t = ok := ⟨_, rfl⟩
    rw [hok] at hK hR
    unfold chv at hK
    clear h hB hT hSame hsm hsd hsz hpl hY1 hY2 hY hok
    cases ok
    · simp only [Bool.false_eq_true, reduceIte] at hK
      go_enter Tryz.func3, Tryz.ntmps3
      go_wp2_with (first
        | (go_at_call 7
           refine (hA.out _ hb0).mono ?_
           rintro e w1 ⟨rfl, hb1⟩
           have hM1 := hL.below hb1 hL.lt
           have c1 := hb0.trans (Below.mono hb1 hb0.size)
           have z0 := hM1.cell 0
           have z1 := hM1.cell 1
           have z2 := hM1.cell 2
           have z3 := hM1.cell 3
           have z4 := hM1.cell 4
           have z5 := hM1.cell 5
           have z6 := hM1.cell 6
           have z7 := hM1.cell 7
           have z8 := hM1.cell 8
           simp only [List.getElem?_cons_succ, List.getElem?_cons_zero] at z0 z1 z2 z3 z4 z5 z6 z7 z8
           clear hb1)
        | (go_at_call 8
           refine (hS.out _ c1).mono ?_
           rintro e w2 ⟨rfl, hb2⟩
           have hM2 := hM1.below hb2 hM1.lt
           have c2 := c1.trans (Below.mono hb2 c1.size)
           have y0 := hM2.cell 0
           have y1 := hM2.cell 1
           have y2 := hM2.cell 2
           have y3 := hM2.cell 3
           have y4 := hM2.cell 4
           have y5 := hM2.cell 5
           have y6 := hM2.cell 6
           have y7 := hM2.cell 7
           have y8 := hM2.cell 8
           simp only [List.getElem?_cons_succ, List.getElem?_cons_zero] at y0 y1 y2 y3 y4 y5 y6 y7 y8
           clear hb2 z0 z1 z2 z3 z4 z5 z6 z7 z8)
        | (go_at_call 10
           refine (hO.out _ c2).mono ?_
           rintro e w3 ⟨v1, v2, v3, rfl, hn3, hb3⟩
           have hM3 := hM2.below hb3 hM2.lt
           have c3 := c2.trans (Below.mono hb3 c2.size)
           have hi3 := Lib.hid hn3.tmin
           clear hb3 hn3 y0 y1 y2 y3 y4 y5 y6 y7 y8)
        | (go_at_call 9
           refine (hK.out _ _ _ _ hi3.out).mono ?_
           rintro e w4 ⟨rfl, hb4⟩
           have hM4 := hM3.below hb4 hM3.lt
           have c4 := c3.trans (Below.mono hb4 c3.size)
           have x0 := hM4.cell 0
           have x1 := hM4.cell 1
           have x2 := hM4.cell 2
           have x3 := hM4.cell 3
           have x4 := hM4.cell 4
           have x5 := hM4.cell 5
           have x6 := hM4.cell 6
           have x7 := hM4.cell 7
           have x8 := hM4.cell 8
           simp only [List.getElem?_cons_succ, List.getElem?_cons_zero] at x0 x1 x2 x3 x4 x5 x6 x7 x8
           clear hb4))
      have c5 := below_drew1 c4
      refine wp_region_held_drew (S := fun w' => Lies w' w.heap.size 28 [.int .i64 t.k, .int .i64 t.n, .string ⟨t.s.toArray⟩, vp, .int .i64 t.d.k, .int .i64 t.d.n, .string ⟨t.d.s.toArray⟩, vi, vk]) rfl hM4.drew (fun hHeld => ?_)
      clear hM4 c4 x0 x1 x2 x3 x4 x5 x6 x7 x8
      refine wpAnyH_take (i := 0) (oi := { dst := some 15, op := Go.Op.load 28 (Go.Operand.tmp 1), type := 28, pos := "law.go:27", after := #[], guard := none }) (v := _) rfl (by kernel_rfl) (by kernel_rfl) (by kernel_rfl) (fun _ _ _ h => h) (Or.inl ⟨by rfl, fun w' hS => load_term w' _ _ _ _ _ _ _ _ _ _ _ _ _ rfl rfl hS⟩) (by assumption) ?_
      try simp only [Act.put, List.setIfInBounds_toArray, List.set_cons_zero, List.set_cons_succ]
      refine wpAnyH_take (i := 3) (oi := { dst := some 18, op := Go.Op.load 28 (Go.Operand.tmp 1), type := 28, pos := "law.go:27", after := #[], guard := none }) (v := _) rfl (by kernel_rfl) (by kernel_rfl) (by kernel_rfl) (fun _ _ _ h => h) (Or.inl ⟨by rfl, fun w' hS => load_term w' _ _ _ _ _ _ _ _ _ _ _ _ _ rfl rfl hS⟩) (by assumption) ?_
      try simp only [Act.put, List.setIfInBounds_toArray, List.set_cons_zero, List.set_cons_succ]
      refine wpAnyH_ready (rs := [1]) (by kernel_rfl) (by simp) ?_
      refine AllReadyH.cons (o := { dst := some 16, op := Go.Op.call { callee := Go.Callee.value (Go.Operand.func 10), args := #[Go.Operand.tmp 15], argTypes := #[28] }, type := 28, pos := "law.go:27", after := #[{ on := 0, ground := Go.Ground.data }], guard := none }) rfl (fun K hK => ?_) AllReadyH.nil
      rw [if_pos (by rfl)]
      go_simp
      refine (hO.out _ c5).mono ?_
      rintro e w6 ⟨v4, v5, v6, rfl, hn6, hb6⟩
      have hM6 := hHeld.below hb6 hHeld.lt
      have c6 := c5.trans (Below.mono hb6 c5.size)
      have hi6 := Lib.hid hn6.tmin
      clear hb6 hn6 hHeld
      refine hK.out _ _ hM6 (fun hHeld => ?_)
      clear hK K
      try simp only [Act.put, List.setIfInBounds_toArray, List.set_cons_zero, List.set_cons_succ]
      refine wpAnyH_ready (rs := [2]) (by kernel_rfl) (by simp) ?_
      refine AllReadyH.cons (o := { dst := some 17, op := Go.Op.call { callee := Go.Callee.value (Go.Operand.func 11), args := #[Go.Operand.tmp 16], argTypes := #[28] }, type := 3, pos := "law.go:27", after := #[{ on := 1, ground := Go.Ground.data }, { on := 1, ground := Go.Ground.chain }], guard := none }) rfl (fun K hK => ?_) AllReadyH.nil
      rw [if_pos (by rfl)]
      go_simp
      refine (hP.out _ _ _ _ hi6.out).mono ?_
      rintro e w7 ⟨rfl, hb7⟩
      have hM7 := hHeld.below hb7 hHeld.lt
      have c7 := c6.trans (Below.mono hb7 c6.size)
      clear hb7 hHeld
      refine hK.out _ _ hM7 (fun hHeld => ?_)
      clear hK K
      try simp only [Act.put, List.setIfInBounds_toArray, List.set_cons_zero, List.set_cons_succ]
      refine wpAnyH_ready (rs := [4]) (by kernel_rfl) (by simp) ?_
      refine AllReadyH.cons (o := { dst := some 19, op := Go.Op.call { callee := Go.Callee.value (Go.Operand.func 12), args := #[Go.Operand.tmp 18], argTypes := #[28] }, type := 3, pos := "law.go:27", after := #[{ on := 3, ground := Go.Ground.data }, { on := 2, ground := Go.Ground.chain }], guard := none }) rfl (fun K hK => ?_) AllReadyH.nil
      rw [if_pos (by rfl)]
      go_simp
      refine (hQ.out _ c7).mono ?_
      rintro e w8 ⟨m8, h8, rfl, hb8⟩
      have e8 := hY2'.out _ h8
      subst e8
      have hM8 := hHeld.below hb8 hHeld.lt
      have c8 := c7.trans (Below.mono hb8 c7.size)
      clear hb8 h8 hHeld
      refine hK.out _ _ hM8 (fun hHeld => ?_)
      clear hK K
      try simp only [Act.put, List.setIfInBounds_toArray, List.set_cons_zero, List.set_cons_succ]
      refine wpAnyH_take (i := 5) (oi := { dst := some 20, op := Go.Op.binOp Go.BinOp.eql 3 (Go.Operand.tmp 17) (Go.Operand.tmp 19) 3, type := 4, pos := "law.go:27", after := #[{ on := 2, ground := Go.Ground.data }, { on := 4, ground := Go.Ground.data }], guard := none }) (v := ?_) rfl (by kernel_rfl) (by kernel_rfl) (by kernel_rfl) (fun _ _ _ h => h) (Or.inl ⟨by rfl, ?_⟩) (by assumption) ?_
      rotate_left
      · intro w hSw; clear hSw; go_simp; try with_reducible rfl
      try simp only [Act.put, List.setIfInBounds_toArray, List.set_cons_zero, List.set_cons_succ]
      refine wpAnyH_take (i := 6) (oi := { dst := some 21, op := Go.Op.move (Go.Operand.tmp 20), type := 4, pos := "law.go:27", after := #[{ on := 5, ground := Go.Ground.data }, { on := 4, ground := Go.Ground.chain }], guard := none }) (v := ?_) rfl (by kernel_rfl) (by kernel_rfl) (by kernel_rfl) (fun _ _ _ h => h) (Or.inl ⟨by rfl, ?_⟩) (by assumption) ?_
      rotate_left
      · intro w hSw; clear hSw; go_simp; try with_reducible rfl
      try simp only [Act.put, List.setIfInBounds_toArray, List.set_cons_zero, List.set_cons_succ]
      refine wpAnyH_take (i := 7) (oi := { dst := some 22, op := Go.Op.move (Go.Operand.tmp 3), type := 32, pos := "law.go:27", after := #[{ on := 6, ground := Go.Ground.guard }], guard := some (6, true) }) (v := ?_) rfl (by kernel_rfl) (by kernel_rfl) (by kernel_rfl) (fun _ _ _ h => h) (Or.inl ⟨by rfl, ?_⟩) (by assumption) ?_
      rotate_left
      · intro w hSw; clear hSw; go_simp; try with_reducible rfl
      try simp only [Act.put, List.setIfInBounds_toArray, List.set_cons_zero, List.set_cons_succ]
      refine wpAnyH_take (i := 8) (oi := { dst := some 23, op := Go.Op.binOp Go.BinOp.eql 32 (Go.Operand.tmp 22) (Go.Operand.const Go.Value.nilIface) 32, type := 4, pos := "law.go:27", after := #[{ on := 7, ground := Go.Ground.data }, { on := 6, ground := Go.Ground.guard }], guard := some (6, true) }) (v := ?_) rfl (by kernel_rfl) (by kernel_rfl) (by kernel_rfl) (fun _ _ _ h => h) (Or.inl ⟨by rfl, ?_⟩) (by assumption) ?_
      rotate_left
      · intro w hSw; clear hSw; go_simp; try with_reducible rfl
      try simp only [Act.put, List.setIfInBounds_toArray, List.set_cons_zero, List.set_cons_succ]
      refine wpAnyH_take (i := 9) (oi := { dst := some 24, op := Go.Op.load 28 (Go.Operand.tmp 1), type := 28, pos := "law.go:27", after := #[{ on := 6, ground := Go.Ground.guard }], guard := some (6, true) }) (v := _) rfl (by kernel_rfl) (by kernel_rfl) (by kernel_rfl) (fun _ _ _ h => h) (Or.inl ⟨by rfl, fun w' hS => load_term w' _ _ _ _ _ _ _ _ _ _ _ _ _ rfl rfl hS⟩) (by assumption) ?_
      try simp only [Act.put, List.setIfInBounds_toArray, List.set_cons_zero, List.set_cons_succ]
      refine wpAnyH_ready (rs := [10]) (by kernel_rfl) (by simp) ?_
      refine AllReadyH.cons (o := { dst := some 25, op := Go.Op.call { callee := Go.Callee.value (Go.Operand.func 13), args := #[Go.Operand.tmp 24], argTypes := #[28] }, type := 4, pos := "law.go:27", after := #[{ on := 9, ground := Go.Ground.data }, { on := 6, ground := Go.Ground.chain }, { on := 6, ground := Go.Ground.guard }], guard := some (6, true) }) rfl (fun K hK => ?_) AllReadyH.nil
      rw [if_pos (by rfl)]
      go_simp
      refine (hR.out _ c8).mono ?_
      rintro e w9 ⟨rfl, hb9⟩
      have hM9 := hHeld.below hb9 hHeld.lt
      have c9 := Lib.hid (c8.trans (Below.mono hb9 c8.size))
      clear hb9 hHeld
      refine hK.out _ _ hM9 (fun hHeld => ?_)
      clear hK K
      try simp only [Act.put, List.setIfInBounds_toArray, List.set_cons_zero, List.set_cons_succ]
      refine wpAnyH_take (i := 11) (oi := { dst := some 26, op := Go.Op.binOp Go.BinOp.eql 4 (Go.Operand.tmp 23) (Go.Operand.tmp 25) 4, type := 4, pos := "law.go:27", after := #[{ on := 8, ground := Go.Ground.data }, { on := 10, ground := Go.Ground.data }, { on := 6, ground := Go.Ground.guard }], guard := some (6, true) }) (v := ?_) rfl (by kernel_rfl) (by kernel_rfl) (by kernel_rfl) (fun _ _ _ h => h) (Or.inl ⟨by rfl, ?_⟩) (by assumption) ?_
      rotate_left
      · intro w hSw; clear hSw; go_simp; try with_reducible rfl
      try simp only [Act.put, List.setIfInBounds_toArray, List.set_cons_zero, List.set_cons_succ]
      refine wpAnyH_take (i := 12) (oi := { dst := some 27, op := Go.Op.pick (Go.Operand.tmp 21) (Go.Operand.tmp 26) (Go.Operand.const (Go.Value.bool false)), type := 4, pos := "law.go:27", after := #[{ on := 6, ground := Go.Ground.data }, { on := 11, ground := Go.Ground.data }], guard := none }) (v := ?_) rfl (by kernel_rfl) (by kernel_rfl) (by kernel_rfl) (fun _ _ _ h => h) (Or.inl ⟨by rfl, ?_⟩) (by assumption) ?_
      rotate_left
      · intro w hSw; clear hSw; go_simp; try with_reducible rfl
      try simp only [Act.put, List.setIfInBounds_toArray, List.set_cons_zero, List.set_cons_succ]
      refine wpAnyH_take (i := 13) (oi := { dst := some 28, op := Go.Op.move (Go.Operand.tmp 27), type := 4, pos := "law.go:27", after := #[{ on := 12, ground := Go.Ground.data }, { on := 10, ground := Go.Ground.chain }], guard := none }) (v := ?_) rfl (by kernel_rfl) (by kernel_rfl) (by kernel_rfl) (fun _ _ _ h => h) (Or.inl ⟨by rfl, ?_⟩) (by assumption) ?_
      rotate_left
      · intro w hSw; clear hSw; go_simp; try with_reducible rfl
      try simp only [Act.put, List.setIfInBounds_toArray, List.set_cons_zero, List.set_cons_succ]
      refine wpAnyH_take (i := 14) (oi := { dst := some 29, op := Go.Op.move (Go.Operand.tmp 3), type := 32, pos := "law.go:27", after := #[{ on := 13, ground := Go.Ground.guard }], guard := some (13, true) }) (v := ?_) rfl (by kernel_rfl) (by kernel_rfl) (by kernel_rfl) (fun _ _ _ h => h) (Or.inl ⟨by rfl, ?_⟩) (by assumption) ?_
      rotate_left
      · intro w hSw; clear hSw; go_simp; try with_reducible rfl
      try simp only [Act.put, List.setIfInBounds_toArray, List.set_cons_zero, List.set_cons_succ]
      refine wpAnyH_take (i := 15) (oi := { dst := some 30, op := Go.Op.binOp Go.BinOp.eql 32 (Go.Operand.tmp 29) (Go.Operand.const Go.Value.nilIface) 32, type := 4, pos := "law.go:27", after := #[{ on := 14, ground := Go.Ground.data }, { on := 13, ground := Go.Ground.guard }], guard := some (13, true) }) (v := ?_) rfl (by kernel_rfl) (by kernel_rfl) (by kernel_rfl) (fun _ _ _ h => h) (Or.inl ⟨by rfl, ?_⟩) (by assumption) ?_
      rotate_left
      · intro w hSw; clear hSw; go_simp; try with_reducible rfl
      try simp only [Act.put, List.setIfInBounds_toArray, List.set_cons_zero, List.set_cons_succ]
      refine wpAnyH_take (i := 16) (oi := { dst := some 31, op := Go.Op.move (Go.Operand.tmp 30), type := 4, pos := "law.go:27", after := #[{ on := 15, ground := Go.Ground.data }, { on := 13, ground := Go.Ground.chain }, { on := 13, ground := Go.Ground.guard }], guard := some (13, true) }) (v := ?_) rfl (by kernel_rfl) (by kernel_rfl) (by kernel_rfl) (fun _ _ _ h => h) (Or.inl ⟨by rfl, ?_⟩) (by assumption) ?_
      rotate_left
      · intro w hSw; clear hSw; go_simp; try with_reducible rfl
      try simp only [Act.put, List.setIfInBounds_toArray, List.set_cons_zero, List.set_cons_succ]
      refine wpAnyH_take (i := 17) (oi := { dst := some 32, op := Go.Op.move (Go.Operand.tmp 3), type := 32, pos := "law.go:27", after := #[{ on := 16, ground := Go.Ground.guard }], guard := some (16, false) }) (v := ?_) rfl (by kernel_rfl) (by kernel_rfl) (by kernel_rfl) (fun _ _ _ h => h) (Or.inl ⟨by rfl, ?_⟩) (by assumption) ?_
      rotate_left
      · intro w hSw; clear hSw; go_simp; try with_reducible rfl
      try simp only [Act.put, List.setIfInBounds_toArray, List.set_cons_zero, List.set_cons_succ]
      refine wpAnyH_take (i := 18) (oi := { dst := some 33, op := Go.Op.makeInterface 37 (Go.Operand.const (Go.Value.int Go.IntKind.i64 7)), type := 32, pos := "law.go:27", after := #[{ on := 16, ground := Go.Ground.guard }], guard := some (16, false) }) (v := ?_) rfl (by kernel_rfl) (by kernel_rfl) (by kernel_rfl) (fun _ _ _ h => h) (Or.inl ⟨by rfl, ?_⟩) (by assumption) ?_
      rotate_left
      · intro w hSw; clear hSw; go_simp; try with_reducible rfl
      try simp only [Act.put, List.setIfInBounds_toArray, List.set_cons_zero, List.set_cons_succ]
      refine wpAnyH_ready (rs := [19]) (by kernel_rfl) (by simp) ?_
      refine AllReadyH.cons (o := { dst := some 34, op := Go.Op.call { callee := Go.Callee.value (Go.Operand.func 14), args := #[Go.Operand.tmp 32, Go.Operand.tmp 33], argTypes := #[32, 32] }, type := 4, pos := "law.go:27", after := #[{ on := 17, ground := Go.Ground.data }, { on := 18, ground := Go.Ground.data }, { on := 16, ground := Go.Ground.chain }, { on := 16, ground := Go.Ground.guard }], guard := some (16, false) }) rfl (fun K hK => ?_) AllReadyH.nil
      rw [if_pos (by rfl)]
      go_simp
      refine (is_same _ _).mono ?_
      rintro e w10 ⟨rfl, rfl⟩
      refine hK.out _ _ hHeld (fun hHeld => ?_)
      clear hK K
      try simp only [Act.put, List.setIfInBounds_toArray, List.set_cons_zero, List.set_cons_succ]
      refine wpAnyH_take (i := 20) (oi := { dst := some 35, op := Go.Op.pick (Go.Operand.tmp 31) (Go.Operand.const (Go.Value.bool true)) (Go.Operand.tmp 34), type := 4, pos := "law.go:27", after := #[{ on := 16, ground := Go.Ground.data }, { on := 19, ground := Go.Ground.data }, { on := 13, ground := Go.Ground.guard }], guard := some (13, true) }) (v := ?_) rfl (by kernel_rfl) (by kernel_rfl) (by kernel_rfl) (fun _ _ _ h => h) (Or.inl ⟨by rfl, ?_⟩) (by assumption) ?_
      rotate_left
      · intro w hSw; clear hSw; go_simp; try with_reducible rfl
      try simp only [Act.put, List.setIfInBounds_toArray, List.set_cons_zero, List.set_cons_succ]
      refine wpAnyH_take (i := 21) (oi := { dst := some 36, op := Go.Op.pick (Go.Operand.tmp 28) (Go.Operand.tmp 35) (Go.Operand.const (Go.Value.bool false)), type := 4, pos := "law.go:27", after := #[{ on := 13, ground := Go.Ground.data }, { on := 20, ground := Go.Ground.data }], guard := none }) (v := ?_) rfl (by kernel_rfl) (by kernel_rfl) (by kernel_rfl) (fun _ _ _ h => h) (Or.inl ⟨by rfl, ?_⟩) (by assumption) ?_
      rotate_left
      · intro w hSw; clear hSw; go_simp; try with_reducible rfl
      try simp only [Act.put, List.setIfInBounds_toArray, List.set_cons_zero, List.set_cons_succ]
      refine wpAnyH_take (i := 22) (oi := { dst := some 2, op := Go.Op.assign (Go.Operand.tmp 36), type := 4, pos := "law.go:27", after := #[{ on := 21, ground := Go.Ground.data }, { on := 19, ground := Go.Ground.chain }, { on := 0, ground := Go.Ground.phase }, { on := 1, ground := Go.Ground.phase }, { on := 2, ground := Go.Ground.phase }, { on := 3, ground := Go.Ground.phase }, { on := 4, ground := Go.Ground.phase }, { on := 5, ground := Go.Ground.phase }, { on := 6, ground := Go.Ground.phase }, { on := 7, ground := Go.Ground.phase }, { on := 8, ground := Go.Ground.phase }, { on := 9, ground := Go.Ground.phase }, { on := 10, ground := Go.Ground.phase }, { on := 11, ground := Go.Ground.phase }, { on := 12, ground := Go.Ground.phase }, { on := 13, ground := Go.Ground.phase }, { on := 14, ground := Go.Ground.phase }, { on := 15, ground := Go.Ground.phase }, { on := 16, ground := Go.Ground.phase }, { on := 17, ground := Go.Ground.phase }, { on := 18, ground := Go.Ground.phase }, { on := 19, ground := Go.Ground.phase }, { on := 20, ground := Go.Ground.phase }, { on := 21, ground := Go.Ground.phase }], guard := none }) (v := ?_) rfl (by kernel_rfl) (by kernel_rfl) (by kernel_rfl) (fun _ _ _ h => h) (Or.inl ⟨by rfl, ?_⟩) (by assumption) ?_
      rotate_left
      · intro w hSw; clear hSw; go_simp; try with_reducible rfl
      try simp only [Act.put, List.setIfInBounds_toArray, List.set_cons_zero, List.set_cons_succ]
      refine wpAnyH_done (by kernel_rfl) ?_ _
      go_wp2_with fail
      go_ret
      exact ⟨rfl, c9.out⟩
    · simp only [reduceIte] at hK
      go_enter Tryz.func3, Tryz.ntmps3
      go_wp2_with (first
        | (go_at_call 7
           refine (hA.out _ hb0).mono ?_
           rintro e w1 ⟨rfl, hb1⟩
           have hM1 := hL.below hb1 hL.lt
           have c1 := hb0.trans (Below.mono hb1 hb0.size)
           have z0 := hM1.cell 0
           have z1 := hM1.cell 1
           have z2 := hM1.cell 2
           have z3 := hM1.cell 3
           have z4 := hM1.cell 4
           have z5 := hM1.cell 5
           have z6 := hM1.cell 6
           have z7 := hM1.cell 7
           have z8 := hM1.cell 8
           simp only [List.getElem?_cons_succ, List.getElem?_cons_zero] at z0 z1 z2 z3 z4 z5 z6 z7 z8
           clear hb1)
        | (go_at_call 8
           refine (hS.out _ c1).mono ?_
           rintro e w2 ⟨rfl, hb2⟩
           have hM2 := hM1.below hb2 hM1.lt
           have c2 := c1.trans (Below.mono hb2 c1.size)
           have y0 := hM2.cell 0
           have y1 := hM2.cell 1
           have y2 := hM2.cell 2
           have y3 := hM2.cell 3
           have y4 := hM2.cell 4
           have y5 := hM2.cell 5
           have y6 := hM2.cell 6
           have y7 := hM2.cell 7
           have y8 := hM2.cell 8
           simp only [List.getElem?_cons_succ, List.getElem?_cons_zero] at y0 y1 y2 y3 y4 y5 y6 y7 y8
           clear hb2 z0 z1 z2 z3 z4 z5 z6 z7 z8)
        | (go_at_call 10
           refine (hO.out _ c2).mono ?_
           rintro e w3 ⟨v1, v2, v3, rfl, hn3, hb3⟩
           have hM3 := hM2.below hb3 hM2.lt
           have c3 := c2.trans (Below.mono hb3 c2.size)
           have hi3 := Lib.hid hn3.tmin
           clear hb3 hn3 y0 y1 y2 y3 y4 y5 y6 y7 y8)
        | (go_at_call 9
           refine (hK.out _ _ _ _ hi3.out).mono ?_
           rintro e w4 ⟨rfl, hb4⟩
           have hM4 := hM3.below hb4 hM3.lt
           have c4 := c3.trans (Below.mono hb4 c3.size)
           have x0 := hM4.cell 0
           have x1 := hM4.cell 1
           have x2 := hM4.cell 2
           have x3 := hM4.cell 3
           have x4 := hM4.cell 4
           have x5 := hM4.cell 5
           have x6 := hM4.cell 6
           have x7 := hM4.cell 7
           have x8 := hM4.cell 8
           simp only [List.getElem?_cons_succ, List.getElem?_cons_zero] at x0 x1 x2 x3 x4 x5 x6 x7 x8
           clear hb4))
      have c5 := below_drew1 c4
      refine wp_region_held_drew (S := fun w' => Lies w' w.heap.size 28 [.int .i64 t.k, .int .i64 t.n, .string ⟨t.s.toArray⟩, vp, .int .i64 t.d.k, .int .i64 t.d.n, .string ⟨t.d.s.toArray⟩, vi, vk]) rfl hM4.drew (fun hHeld => ?_)
      clear hM4 c4 x0 x1 x2 x3 x4 x5 x6 x7 x8
      refine wpAnyH_take (i := 0) (oi := { dst := some 15, op := Go.Op.load 28 (Go.Operand.tmp 1), type := 28, pos := "law.go:27", after := #[], guard := none }) (v := _) rfl (by kernel_rfl) (by kernel_rfl) (by kernel_rfl) (fun _ _ _ h => h) (Or.inl ⟨by rfl, fun w' hS => load_term w' _ _ _ _ _ _ _ _ _ _ _ _ _ rfl rfl hS⟩) (by assumption) ?_
      try simp only [Act.put, List.setIfInBounds_toArray, List.set_cons_zero, List.set_cons_succ]
      refine wpAnyH_take (i := 3) (oi := { dst := some 18, op := Go.Op.load 28 (Go.Operand.tmp 1), type := 28, pos := "law.go:27", after := #[], guard := none }) (v := _) rfl (by kernel_rfl) (by kernel_rfl) (by kernel_rfl) (fun _ _ _ h => h) (Or.inl ⟨by rfl, fun w' hS => load_term w' _ _ _ _ _ _ _ _ _ _ _ _ _ rfl rfl hS⟩) (by assumption) ?_
      try simp only [Act.put, List.setIfInBounds_toArray, List.set_cons_zero, List.set_cons_succ]
      refine wpAnyH_ready (rs := [1]) (by kernel_rfl) (by simp) ?_
      refine AllReadyH.cons (o := { dst := some 16, op := Go.Op.call { callee := Go.Callee.value (Go.Operand.func 10), args := #[Go.Operand.tmp 15], argTypes := #[28] }, type := 28, pos := "law.go:27", after := #[{ on := 0, ground := Go.Ground.data }], guard := none }) rfl (fun K hK => ?_) AllReadyH.nil
      rw [if_pos (by rfl)]
      go_simp
      refine (hO.out _ c5).mono ?_
      rintro e w6 ⟨v4, v5, v6, rfl, hn6, hb6⟩
      have hM6 := hHeld.below hb6 hHeld.lt
      have c6 := c5.trans (Below.mono hb6 c5.size)
      have hi6 := Lib.hid hn6.tmin
      clear hb6 hn6 hHeld
      refine hK.out _ _ hM6 (fun hHeld => ?_)
      clear hK K
      try simp only [Act.put, List.setIfInBounds_toArray, List.set_cons_zero, List.set_cons_succ]
      refine wpAnyH_ready (rs := [2]) (by kernel_rfl) (by simp) ?_
      refine AllReadyH.cons (o := { dst := some 17, op := Go.Op.call { callee := Go.Callee.value (Go.Operand.func 11), args := #[Go.Operand.tmp 16], argTypes := #[28] }, type := 3, pos := "law.go:27", after := #[{ on := 1, ground := Go.Ground.data }, { on := 1, ground := Go.Ground.chain }], guard := none }) rfl (fun K hK => ?_) AllReadyH.nil
      rw [if_pos (by rfl)]
      go_simp
      refine (hP.out _ _ _ _ hi6.out).mono ?_
      rintro e w7 ⟨rfl, hb7⟩
      have hM7 := hHeld.below hb7 hHeld.lt
      have c7 := c6.trans (Below.mono hb7 c6.size)
      clear hb7 hHeld
      refine hK.out _ _ hM7 (fun hHeld => ?_)
      clear hK K
      try simp only [Act.put, List.setIfInBounds_toArray, List.set_cons_zero, List.set_cons_succ]
      refine wpAnyH_ready (rs := [4]) (by kernel_rfl) (by simp) ?_
      refine AllReadyH.cons (o := { dst := some 19, op := Go.Op.call { callee := Go.Callee.value (Go.Operand.func 12), args := #[Go.Operand.tmp 18], argTypes := #[28] }, type := 3, pos := "law.go:27", after := #[{ on := 3, ground := Go.Ground.data }, { on := 2, ground := Go.Ground.chain }], guard := none }) rfl (fun K hK => ?_) AllReadyH.nil
      rw [if_pos (by rfl)]
      go_simp
      refine (hQ.out _ c7).mono ?_
      rintro e w8 ⟨m8, h8, rfl, hb8⟩
      have e8 := hY2'.out _ h8
      subst e8
      have hM8 := hHeld.below hb8 hHeld.lt
      have c8 := c7.trans (Below.mono hb8 c7.size)
      clear hb8 h8 hHeld
      refine hK.out _ _ hM8 (fun hHeld => ?_)
      clear hK K
      try simp only [Act.put, List.setIfInBounds_toArray, List.set_cons_zero, List.set_cons_succ]
      refine wpAnyH_take (i := 5) (oi := { dst := some 20, op := Go.Op.binOp Go.BinOp.eql 3 (Go.Operand.tmp 17) (Go.Operand.tmp 19) 3, type := 4, pos := "law.go:27", after := #[{ on := 2, ground := Go.Ground.data }, { on := 4, ground := Go.Ground.data }], guard := none }) (v := ?_) rfl (by kernel_rfl) (by kernel_rfl) (by kernel_rfl) (fun _ _ _ h => h) (Or.inl ⟨by rfl, ?_⟩) (by assumption) ?_
      rotate_left
      · intro w hSw; clear hSw; go_simp; try with_reducible rfl
      try simp only [Act.put, List.setIfInBounds_toArray, List.set_cons_zero, List.set_cons_succ]
      refine wpAnyH_take (i := 6) (oi := { dst := some 21, op := Go.Op.move (Go.Operand.tmp 20), type := 4, pos := "law.go:27", after := #[{ on := 5, ground := Go.Ground.data }, { on := 4, ground := Go.Ground.chain }], guard := none }) (v := ?_) rfl (by kernel_rfl) (by kernel_rfl) (by kernel_rfl) (fun _ _ _ h => h) (Or.inl ⟨by rfl, ?_⟩) (by assumption) ?_
      rotate_left
      · intro w hSw; clear hSw; go_simp; try with_reducible rfl
      try simp only [Act.put, List.setIfInBounds_toArray, List.set_cons_zero, List.set_cons_succ]
      refine wpAnyH_take (i := 7) (oi := { dst := some 22, op := Go.Op.move (Go.Operand.tmp 3), type := 32, pos := "law.go:27", after := #[{ on := 6, ground := Go.Ground.guard }], guard := some (6, true) }) (v := ?_) rfl (by kernel_rfl) (by kernel_rfl) (by kernel_rfl) (fun _ _ _ h => h) (Or.inl ⟨by rfl, ?_⟩) (by assumption) ?_
      rotate_left
      · intro w hSw; clear hSw; go_simp; try with_reducible rfl
      try simp only [Act.put, List.setIfInBounds_toArray, List.set_cons_zero, List.set_cons_succ]
      refine wpAnyH_take (i := 8) (oi := { dst := some 23, op := Go.Op.binOp Go.BinOp.eql 32 (Go.Operand.tmp 22) (Go.Operand.const Go.Value.nilIface) 32, type := 4, pos := "law.go:27", after := #[{ on := 7, ground := Go.Ground.data }, { on := 6, ground := Go.Ground.guard }], guard := some (6, true) }) (v := ?_) rfl (by kernel_rfl) (by kernel_rfl) (by kernel_rfl) (fun _ _ _ h => h) (Or.inl ⟨by rfl, ?_⟩) (by assumption) ?_
      rotate_left
      · intro w hSw; clear hSw; go_simp; try with_reducible rfl
      try simp only [Act.put, List.setIfInBounds_toArray, List.set_cons_zero, List.set_cons_succ]
      refine wpAnyH_take (i := 9) (oi := { dst := some 24, op := Go.Op.load 28 (Go.Operand.tmp 1), type := 28, pos := "law.go:27", after := #[{ on := 6, ground := Go.Ground.guard }], guard := some (6, true) }) (v := _) rfl (by kernel_rfl) (by kernel_rfl) (by kernel_rfl) (fun _ _ _ h => h) (Or.inl ⟨by rfl, fun w' hS => load_term w' _ _ _ _ _ _ _ _ _ _ _ _ _ rfl rfl hS⟩) (by assumption) ?_
      try simp only [Act.put, List.setIfInBounds_toArray, List.set_cons_zero, List.set_cons_succ]
      refine wpAnyH_ready (rs := [10]) (by kernel_rfl) (by simp) ?_
      refine AllReadyH.cons (o := { dst := some 25, op := Go.Op.call { callee := Go.Callee.value (Go.Operand.func 13), args := #[Go.Operand.tmp 24], argTypes := #[28] }, type := 4, pos := "law.go:27", after := #[{ on := 9, ground := Go.Ground.data }, { on := 6, ground := Go.Ground.chain }, { on := 6, ground := Go.Ground.guard }], guard := some (6, true) }) rfl (fun K hK => ?_) AllReadyH.nil
      rw [if_pos (by rfl)]
      go_simp
      refine (hR.out _ c8).mono ?_
      rintro e w9 ⟨rfl, hb9⟩
      have hM9 := hHeld.below hb9 hHeld.lt
      have c9 := Lib.hid (c8.trans (Below.mono hb9 c8.size))
      clear hb9 hHeld
      refine hK.out _ _ hM9 (fun hHeld => ?_)
      clear hK K
      try simp only [Act.put, List.setIfInBounds_toArray, List.set_cons_zero, List.set_cons_succ]
      refine wpAnyH_take (i := 11) (oi := { dst := some 26, op := Go.Op.binOp Go.BinOp.eql 4 (Go.Operand.tmp 23) (Go.Operand.tmp 25) 4, type := 4, pos := "law.go:27", after := #[{ on := 8, ground := Go.Ground.data }, { on := 10, ground := Go.Ground.data }, { on := 6, ground := Go.Ground.guard }], guard := some (6, true) }) (v := ?_) rfl (by kernel_rfl) (by kernel_rfl) (by kernel_rfl) (fun _ _ _ h => h) (Or.inl ⟨by rfl, ?_⟩) (by assumption) ?_
      rotate_left
      · intro w hSw; clear hSw; go_simp; try with_reducible rfl
      try simp only [Act.put, List.setIfInBounds_toArray, List.set_cons_zero, List.set_cons_succ]
      refine wpAnyH_take (i := 12) (oi := { dst := some 27, op := Go.Op.pick (Go.Operand.tmp 21) (Go.Operand.tmp 26) (Go.Operand.const (Go.Value.bool false)), type := 4, pos := "law.go:27", after := #[{ on := 6, ground := Go.Ground.data }, { on := 11, ground := Go.Ground.data }], guard := none }) (v := ?_) rfl (by kernel_rfl) (by kernel_rfl) (by kernel_rfl) (fun _ _ _ h => h) (Or.inl ⟨by rfl, ?_⟩) (by assumption) ?_
      rotate_left
      · intro w hSw; clear hSw; go_simp; try with_reducible rfl
      try simp only [Act.put, List.setIfInBounds_toArray, List.set_cons_zero, List.set_cons_succ]
      refine wpAnyH_take (i := 13) (oi := { dst := some 28, op := Go.Op.move (Go.Operand.tmp 27), type := 4, pos := "law.go:27", after := #[{ on := 12, ground := Go.Ground.data }, { on := 10, ground := Go.Ground.chain }], guard := none }) (v := ?_) rfl (by kernel_rfl) (by kernel_rfl) (by kernel_rfl) (fun _ _ _ h => h) (Or.inl ⟨by rfl, ?_⟩) (by assumption) ?_
      rotate_left
      · intro w hSw; clear hSw; go_simp; try with_reducible rfl
      try simp only [Act.put, List.setIfInBounds_toArray, List.set_cons_zero, List.set_cons_succ]
      refine wpAnyH_take (i := 14) (oi := { dst := some 29, op := Go.Op.move (Go.Operand.tmp 3), type := 32, pos := "law.go:27", after := #[{ on := 13, ground := Go.Ground.guard }], guard := some (13, true) }) (v := ?_) rfl (by kernel_rfl) (by kernel_rfl) (by kernel_rfl) (fun _ _ _ h => h) (Or.inl ⟨by rfl, ?_⟩) (by assumption) ?_
      rotate_left
      · intro w hSw; clear hSw; go_simp; try with_reducible rfl
      try simp only [Act.put, List.setIfInBounds_toArray, List.set_cons_zero, List.set_cons_succ]
      refine wpAnyH_take (i := 15) (oi := { dst := some 30, op := Go.Op.binOp Go.BinOp.eql 32 (Go.Operand.tmp 29) (Go.Operand.const Go.Value.nilIface) 32, type := 4, pos := "law.go:27", after := #[{ on := 14, ground := Go.Ground.data }, { on := 13, ground := Go.Ground.guard }], guard := some (13, true) }) (v := ?_) rfl (by kernel_rfl) (by kernel_rfl) (by kernel_rfl) (fun _ _ _ h => h) (Or.inl ⟨by rfl, ?_⟩) (by assumption) ?_
      rotate_left
      · intro w hSw; clear hSw; go_simp; try with_reducible rfl
      try simp only [Act.put, List.setIfInBounds_toArray, List.set_cons_zero, List.set_cons_succ]
      refine wpAnyH_take (i := 16) (oi := { dst := some 31, op := Go.Op.move (Go.Operand.tmp 30), type := 4, pos := "law.go:27", after := #[{ on := 15, ground := Go.Ground.data }, { on := 13, ground := Go.Ground.chain }, { on := 13, ground := Go.Ground.guard }], guard := some (13, true) }) (v := ?_) rfl (by kernel_rfl) (by kernel_rfl) (by kernel_rfl) (fun _ _ _ h => h) (Or.inl ⟨by rfl, ?_⟩) (by assumption) ?_
      rotate_left
      · intro w hSw; clear hSw; go_simp; try with_reducible rfl
      try simp only [Act.put, List.setIfInBounds_toArray, List.set_cons_zero, List.set_cons_succ]
      refine wpAnyH_take (i := 17) (oi := { dst := some 32, op := Go.Op.move (Go.Operand.tmp 3), type := 32, pos := "law.go:27", after := #[{ on := 16, ground := Go.Ground.guard }], guard := some (16, false) }) (v := undef) rfl (by kernel_rfl) (by kernel_rfl) (by kernel_rfl) (fun _ _ _ h => h) (Or.inr ⟨by rfl, rfl⟩) (by assumption) ?_
      try simp only [Act.put, List.setIfInBounds_toArray, List.set_cons_zero, List.set_cons_succ]
      refine wpAnyH_take (i := 18) (oi := { dst := some 33, op := Go.Op.makeInterface 37 (Go.Operand.const (Go.Value.int Go.IntKind.i64 7)), type := 32, pos := "law.go:27", after := #[{ on := 16, ground := Go.Ground.guard }], guard := some (16, false) }) (v := undef) rfl (by kernel_rfl) (by kernel_rfl) (by kernel_rfl) (fun _ _ _ h => h) (Or.inr ⟨by rfl, rfl⟩) (by assumption) ?_
      try simp only [Act.put, List.setIfInBounds_toArray, List.set_cons_zero, List.set_cons_succ]
      refine wpAnyH_take (i := 19) (oi := { dst := some 34, op := Go.Op.call { callee := Go.Callee.value (Go.Operand.func 14), args := #[Go.Operand.tmp 32, Go.Operand.tmp 33], argTypes := #[32, 32] }, type := 4, pos := "law.go:27", after := #[{ on := 17, ground := Go.Ground.data }, { on := 18, ground := Go.Ground.data }, { on := 16, ground := Go.Ground.chain }, { on := 16, ground := Go.Ground.guard }], guard := some (16, false) }) (v := undef) rfl (by kernel_rfl) (by kernel_rfl) (by kernel_rfl) (fun _ _ _ h => h) (Or.inr ⟨by rfl, rfl⟩) (by assumption) ?_
      try simp only [Act.put, List.setIfInBounds_toArray, List.set_cons_zero, List.set_cons_succ]
      refine wpAnyH_take (i := 20) (oi := { dst := some 35, op := Go.Op.pick (Go.Operand.tmp 31) (Go.Operand.const (Go.Value.bool true)) (Go.Operand.tmp 34), type := 4, pos := "law.go:27", after := #[{ on := 16, ground := Go.Ground.data }, { on := 19, ground := Go.Ground.data }, { on := 13, ground := Go.Ground.guard }], guard := some (13, true) }) (v := ?_) rfl (by kernel_rfl) (by kernel_rfl) (by kernel_rfl) (fun _ _ _ h => h) (Or.inl ⟨by rfl, ?_⟩) (by assumption) ?_
      rotate_left
      · intro w hSw; clear hSw; go_simp; try with_reducible rfl
      try simp only [Act.put, List.setIfInBounds_toArray, List.set_cons_zero, List.set_cons_succ]
      refine wpAnyH_take (i := 21) (oi := { dst := some 36, op := Go.Op.pick (Go.Operand.tmp 28) (Go.Operand.tmp 35) (Go.Operand.const (Go.Value.bool false)), type := 4, pos := "law.go:27", after := #[{ on := 13, ground := Go.Ground.data }, { on := 20, ground := Go.Ground.data }], guard := none }) (v := ?_) rfl (by kernel_rfl) (by kernel_rfl) (by kernel_rfl) (fun _ _ _ h => h) (Or.inl ⟨by rfl, ?_⟩) (by assumption) ?_
      rotate_left
      · intro w hSw; clear hSw; go_simp; try with_reducible rfl
      try simp only [Act.put, List.setIfInBounds_toArray, List.set_cons_zero, List.set_cons_succ]
      refine wpAnyH_take (i := 22) (oi := { dst := some 2, op := Go.Op.assign (Go.Operand.tmp 36), type := 4, pos := "law.go:27", after := #[{ on := 21, ground := Go.Ground.data }, { on := 19, ground := Go.Ground.chain }, { on := 0, ground := Go.Ground.phase }, { on := 1, ground := Go.Ground.phase }, { on := 2, ground := Go.Ground.phase }, { on := 3, ground := Go.Ground.phase }, { on := 4, ground := Go.Ground.phase }, { on := 5, ground := Go.Ground.phase }, { on := 6, ground := Go.Ground.phase }, { on := 7, ground := Go.Ground.phase }, { on := 8, ground := Go.Ground.phase }, { on := 9, ground := Go.Ground.phase }, { on := 10, ground := Go.Ground.phase }, { on := 11, ground := Go.Ground.phase }, { on := 12, ground := Go.Ground.phase }, { on := 13, ground := Go.Ground.phase }, { on := 14, ground := Go.Ground.phase }, { on := 15, ground := Go.Ground.phase }, { on := 16, ground := Go.Ground.phase }, { on := 17, ground := Go.Ground.phase }, { on := 18, ground := Go.Ground.phase }, { on := 19, ground := Go.Ground.phase }, { on := 20, ground := Go.Ground.phase }, { on := 21, ground := Go.Ground.phase }], guard := none }) (v := ?_) rfl (by kernel_rfl) (by kernel_rfl) (by kernel_rfl) (fun _ _ _ h => h) (Or.inl ⟨by rfl, ?_⟩) (by assumption) ?_
      rotate_left
      · intro w hSw; clear hSw; go_simp; try with_reducible rfl
      try simp only [Act.put, List.setIfInBounds_toArray, List.set_cons_zero, List.set_cons_succ]
      refine wpAnyH_done (by kernel_rfl) ?_ _
      go_wp2_with fail
      go_ret
      exact ⟨rfl, c9.out⟩
end Go.Proofs.YtfalcabkdlllnaaGreatDoor

/- The laws of layer 10, Same being what it is. -/
namespace Go.Proofs.YtfalcabkdlllnaaGreatDoor
open Go.RowKit
open TM (Tl Tm)

theorem same_as : SameAny := fun a b w u1 u2 u3 v1 v2 v3 h1 h2 b1 b2 => tsame_any a b w u1 u2 u3 v1 v2 v3 h1 h2 b1 b2
theorem termChecks_walk (t : Tm) (w : World) (vp vi vk : Value) (h : TmIn w t vp vi vk) (hB : TmBd t) (hT : Tab w) :
    Calls Tryz.prog 3 #[tmv t vp vi vk] w fun e w' => e = .returned (.bool true) ∧ Below w.heap.size w w' := termChecks_of same_as t w vp vi vk h hB hT
end Go.Proofs.YtfalcabkdlllnaaGreatDoor

/- Terms that came in: an argument of a law, as what can be read. -/
namespace Go.Proofs.YtfalcabkdlllnaaGreatDoor
open Go.ChangeShapes Go.WideShapes Go.ChangeAt Go.RowKit Go.Deep
open TM (Tl Tm)

section
variable {H : Type} {enc : TypeId × Value → H} {W : World}
theorem fieldsTerm : ∃ fs : Array Field, Tryz.prog.underlying 28 = some (.struct fs)
    ∧ (fs[0]?).map (fun f => (f.type, f.offset)) = some (3, 0) ∧ (fs[1]?).map (fun f => (f.type, f.offset)) = some (3, 1) ∧ (fs[2]?).map (fun f => (f.type, f.offset)) = some (9, 2) ∧ (fs[3]?).map (fun f => (f.type, f.offset)) = some (22, 3) ∧ (fs[4]?).map (fun f => (f.type, f.offset)) = some (25, 4) ∧ (fs[5]?).map (fun f => (f.type, f.offset)) = some (26, 8) :=
  ⟨_, Tryz.underlying28, by kernel_rfl, by kernel_rfl, by kernel_rfl, by kernel_rfl, by kernel_rfl, by kernel_rfl⟩
theorem oneInts : Tryz.prog.cellsOf 22 = 1 := by kernel_rfl
theorem oneTerms : Tryz.prog.cellsOf 26 = 1 := by kernel_rfl
theorem nineTerm : Tryz.prog.cellsOf 28 = 9 := by kernel_rfl
/-- ints that came in -/
theorem ints_cells (fuel : Nat) {cs : List Value} {x : DataW H × List MemPlace} (h : DataW.trod enc Tryz.prog W 0 (fun _ => true) true fuel 22 cs = some x) :
    ∃ v l, cs = [v] ∧ PIn W v l ∧ ∀ p ∈ l, b64 p := by
  rcases DataW.trod_slice Tryz.underlying22 h with ⟨rfl, -⟩ | ⟨a, len, cap, elems, rest, n, hn, rfl, -, -, hl, hm, hlen, hel, -, -⟩
  · exact ⟨_, [], rfl, PIn.nil W, by simp⟩
  · have each : ∀ i, ∃ x : Int, i < len → (W.cell? (a.add i) = some (.int .i64 x) ∧ b64 x) := by
      intro i
      by_cases hi : i < len
      · have key := hel i hi
        rw [List.getElem?_eq_getElem (by omega)] at key
        obtain ⟨cs', h1, h2⟩ := Option.bind_eq_some_iff.1 key
        rw [oneInt] at h1
        obtain ⟨k, ek, -, wk⟩ := DataW.trod_int Tryz.underlying3 h2
        subst ek
        obtain ⟨_, _, hat⟩ := World.cells?_some h1
        have c0 := hat 0 (by omega)
        rw [Go.Deep.add_add] at c0
        exact ⟨k, fun _ => ⟨by simpa using c0, bounds64 wk⟩⟩
      · exact ⟨0, fun h => absurd h hi⟩
    obtain ⟨D, hD⟩ := Classical.axiomOfChoice each
    obtain ⟨b, off, spot⟩ := a
    have hlen2 : ((List.range len).map D).length = len := by simp
    have hbd : ∀ p ∈ (List.range len).map D, b64 p := by
      intro p hp
      simp only [List.mem_map, List.mem_range] at hp
      obtain ⟨i, hi, rfl⟩ := hp
      exact (hD i hi).2
    by_cases h0 : 0 < len
    · have hspot : spot = none := by simpa [Addr.add] using World.cell?_spot (hD 0 h0).1
      subst hspot
      have hlt : b < W.heap.size := by
        have := World.block_lt_of_cell? W _ (hD 0 h0).1
        rwa [add_plain] at this
      refine ⟨_, (List.range len).map D, rfl, ⟨some ⟨b, off, none⟩, cap, by rw [hlen2], by rw [hlen2]; unfold maxLen at hm; omega, b, off, fun _ => ⟨rfl, hlt⟩, fun j x hx => ?_⟩, hbd⟩
      have hj : j < len := by have := (List.getElem?_eq_some_iff.1 hx).1; omega
      rw [List.getElem?_map, List.getElem?_range hj] at hx
      simp only [Option.map_some, Option.some.injEq] at hx
      subst hx
      have := (hD j hj).1
      rwa [add_plain] at this
    · obtain rfl : len = 0 := by omega
      exact ⟨_, [], rfl, ⟨some ⟨b, off, spot⟩, cap, rfl, by simp, 0, 0, fun h => absurd h (by simp), fun j x hx => by simp at hx⟩, by simp⟩
set_option maxRecDepth 100000 in
/-- one term's nine cells -/
theorem term_cells {fuel : Nat} {cs : List Value} {x : DataW H × List MemPlace} (h : DataW.trod enc Tryz.prog W 0 (fun _ => true) true fuel 28 cs = some x) :
    ∃ (k n : Int) (s : ByteArray) (vp : Value) (ps : List Int) (dk dn : Int) (ds : ByteArray) (vi : Value) (is : RM.Dl) (u : Value) (m : Nat) (y : DataW H × List MemPlace), fuel = m + 1 ∧ cs = [.int .i64 k, .int .i64 n, .string s, vp, .int .i64 dk, .int .i64 dn, .string ds, vi, u]
      ∧ b64 k ∧ b64 n ∧ PIn W vp ps ∧ (∀ p ∈ ps, b64 p) ∧ b64 dk ∧ b64 dn ∧ In W vi is ∧ Bd is
      ∧ DataW.trod enc Tryz.prog W 0 (fun _ => true) true m 26 [u] = some y := by
  obtain ⟨fs, hu, f0, f1, f2, f3, f4, f5⟩ := fieldsTerm
  obtain ⟨xs, m, hm, -, hl, hxl, hx⟩ := DataW.trod_struct hu h
  rw [nineTerm] at hl
  simp only [Option.map_eq_some_iff, Prod.mk.injEq] at f0 f1 f2 f3 f4 f5
  obtain ⟨q0, e0, t0, o0⟩ := f0
  obtain ⟨q1, e1, t1, o1⟩ := f1
  obtain ⟨q2, e2, t2, o2⟩ := f2
  obtain ⟨q3, e3, t3, o3⟩ := f3
  obtain ⟨q4, e4, t4, o4⟩ := f4
  obtain ⟨q5, e5, t5, o5⟩ := f5
  have hsz : 6 ≤ fs.size := by
    have := (Array.getElem?_eq_some_iff.1 e5).1; omega
  have g := fun i (hi : i < 6) => List.getElem?_eq_getElem (l := xs) (i := i) (by omega)
  have h0 := (hx 0 q0 e0).trans (g 0 (by omega))
  have h1 := (hx 1 q1 e1).trans (g 1 (by omega))
  have h2 := (hx 2 q2 e2).trans (g 2 (by omega))
  have h3 := (hx 3 q3 e3).trans (g 3 (by omega))
  have h4 := (hx 4 q4 e4).trans (g 4 (by omega))
  have h5 := (hx 5 q5 e5).trans (g 5 (by omega))
  obtain ⟨c0, c1, c2, c3, c4, c5, c6, c7, c8, rfl⟩ : ∃ c0 c1 c2 c3 c4 c5 c6 c7 c8, cs = [c0, c1, c2, c3, c4, c5, c6, c7, c8] := by
    match cs, hl with
    | [c0, c1, c2, c3, c4, c5, c6, c7, c8], _ => exact ⟨_, _, _, _, _, _, _, _, _, rfl⟩
  rw [t0, o0, oneInt] at h0
  rw [t1, o1, oneInt] at h1
  rw [t2, o2, oneString] at h2
  rw [t3, o3, oneInts] at h3
  rw [t4, o4, fourDatum] at h4
  rw [t5, o5, oneTerms] at h5
  simp only [List.drop, List.take_succ_cons, List.take_zero] at h0 h1 h2 h3 h4 h5
  obtain ⟨k, ek, -, wk⟩ := DataW.trod_int Tryz.underlying3 h0
  obtain ⟨n, en, -, wn⟩ := DataW.trod_int Tryz.underlying3 h1
  obtain ⟨s, es, -, _⟩ := DataW.trod_string Tryz.underlying9 h2
  obtain ⟨vp, ps, ep, hp, bp⟩ := ints_cells m h3
  obtain ⟨dk, dn, ds, vi, m4, y4, -, ed, bdk, bdn, hd⟩ := datum_cells h4
  obtain ⟨vi', is, ei, hi, bi⟩ := data_cells m4 hd
  simp only [List.cons.injEq, and_true] at ek en es ep ed ei
  obtain ⟨rfl, rfl, rfl, rfl⟩ := ed
  subst ek en es ep ei
  exact ⟨k, n, s, _, ps, dk, dn, ds, _, is, c8, m, _, hm, rfl, bounds64 wk, bounds64 wn, hp, bp, bdk, bdn, hi, bi, h5⟩
theorem terms_row {b off len : Nat} (D : Nat → Tm) (hb : 0 < len → b < W.heap.size)
    (hD : ∀ i, i < len → (W.cell? ⟨b, off + i * 9, none⟩ = some (.int .i64 (D i).k) ∧ W.cell? ⟨b, off + i * 9 + 1, none⟩ = some (.int .i64 (D i).n) ∧ W.cell? ⟨b, off + i * 9 + 2, none⟩ = some (.string ⟨(D i).s.toArray⟩)
      ∧ (∃ u, W.cell? ⟨b, off + i * 9 + 3, none⟩ = some u ∧ PIn W u (D i).ps) ∧ W.cell? ⟨b, off + i * 9 + 4, none⟩ = some (.int .i64 (D i).d.k) ∧ W.cell? ⟨b, off + i * 9 + 5, none⟩ = some (.int .i64 (D i).d.n) ∧ W.cell? ⟨b, off + i * 9 + 6, none⟩ = some (.string ⟨(D i).d.s.toArray⟩)
      ∧ (∃ u, W.cell? ⟨b, off + i * 9 + 7, none⟩ = some u ∧ In W u (D i).d.is) ∧ (∃ u, W.cell? ⟨b, off + i * 9 + 8, none⟩ = some u ∧ TIn W u (D i).ks)) ∧ TmBd (D i)) :
    ∀ m, m ≤ len → ∃ t : Tl, t.len = m ∧ TInAt W t b (off + (len - m) * 9) ∧ TBd t
  | 0, _ => ⟨.nil, rfl, trivial, trivial⟩
  | m + 1, hm => by
    obtain ⟨t, h1, h2, h3⟩ := terms_row D hb hD m (by omega)
    obtain ⟨⟨c0, c1, c2, c3, c4, c5, c6, c7, u, c8, hu⟩, hB⟩ := hD (len - (m + 1)) (by omega)
    obtain ⟨A, c, rfl, hl, b', o', hA, hI⟩ := hu
    refine ⟨.cons (D (len - (m + 1))).k (D (len - (m + 1))).n (D (len - (m + 1))).s (D (len - (m + 1))).ps (D (len - (m + 1))).d (D (len - (m + 1))).ks t, by rw [Tl.len, h1], ⟨hb (by omega), c0, c1, c2, c3, c4, c5, c6, c7, ⟨A, c, c8, hl, b', o', hA, hI⟩, ?_⟩, hB.k, hB.n, hB.p, hB.dk, hB.dn, hB.d, hB.ks, h3⟩
    rw [show off + (len - (m + 1)) * 9 + 9 = off + (len - m) * 9 by omega]
    exact h2
/-- terms that came in -/
theorem terms_cells : ∀ (fuel : Nat) {cs : List Value} {x : DataW H × List MemPlace}, DataW.trod enc Tryz.prog W 0 (fun _ => true) true fuel 26 cs = some x →
    ∃ v t, cs = [v] ∧ TIn W v t ∧ TBd t := by
  intro fuel
  induction fuel using Nat.strongRecOn with
  | _ fuel ih =>
    intro cs x h
    rcases DataW.trod_slice Tryz.underlying26 h with ⟨rfl, -⟩ | ⟨a, len, cap, elems, rest, n, hn, rfl, -, -, hl, hm, hlen, hel, -, -⟩
    · exact ⟨_, .nil, rfl, TIn.nil W, trivial⟩
    · have each : ∀ i, ∃ x : Tm, i < len → (W.cell? (a.add (i * 9)) = some (.int .i64 x.k) ∧ W.cell? (a.add (i * 9 + 1)) = some (.int .i64 x.n) ∧ W.cell? (a.add (i * 9 + 2)) = some (.string ⟨x.s.toArray⟩)
          ∧ (∃ u, W.cell? (a.add (i * 9 + 3)) = some u ∧ PIn W u x.ps) ∧ W.cell? (a.add (i * 9 + 4)) = some (.int .i64 x.d.k) ∧ W.cell? (a.add (i * 9 + 5)) = some (.int .i64 x.d.n) ∧ W.cell? (a.add (i * 9 + 6)) = some (.string ⟨x.d.s.toArray⟩)
          ∧ (∃ u, W.cell? (a.add (i * 9 + 7)) = some u ∧ In W u x.d.is) ∧ (∃ u, W.cell? (a.add (i * 9 + 8)) = some u ∧ TIn W u x.ks)) ∧ TmBd x := by
        intro i
        by_cases hi : i < len
        · have key := hel i hi
          rw [List.getElem?_eq_getElem (by omega)] at key
          obtain ⟨cs', h1, h2⟩ := Option.bind_eq_some_iff.1 key
          rw [nineTerm] at h1
          obtain ⟨k, n', s, vp, ps, dk, dn, ds, vi, is, u, m, y, hm', rfl, bk, bn, hp, bp, bdk, bdn, hi', bi, hu⟩ := term_cells h2
          obtain ⟨v, t, e, hI, hB⟩ := ih m (by omega) hu
          simp only [List.cons.injEq, and_true] at e
          subst e
          obtain ⟨_, _, hat⟩ := World.cells?_some h1
          have c0 := hat 0 (by omega)
          have c1 := hat 1 (by omega)
          have c2 := hat 2 (by omega)
          have c3 := hat 3 (by omega)
          have c4 := hat 4 (by omega)
          have c5 := hat 5 (by omega)
          have c6 := hat 6 (by omega)
          have c7 := hat 7 (by omega)
          have c8 := hat 8 (by omega)
          rw [Go.Deep.add_add] at c0 c1 c2 c3 c4 c5 c6 c7 c8
          exact ⟨⟨k, n', s.data.toList, ps, ⟨dk, dn, ds.data.toList, is⟩, t⟩, fun _ => ⟨⟨by simpa using c0, by simpa using c1, by simpa using c2, ⟨vp, by simpa using c3, hp⟩, by simpa using c4, by simpa using c5, by simpa using c6, ⟨vi, by simpa using c7, hi'⟩, u, by simpa using c8, hI⟩, ⟨bk, bn, bp, bdk, bdn, bi, hB⟩⟩⟩
        · exact ⟨⟨0, 0, [], [], ⟨0, 0, [], .nil⟩, .nil⟩, fun h => absurd h hi⟩
      obtain ⟨D, hD⟩ := Classical.axiomOfChoice each
      obtain ⟨b, off, spot⟩ := a
      by_cases h0 : 0 < len
      · have hspot : spot = none := by simpa [Addr.add] using World.cell?_spot (hD 0 h0).1.1
        subst hspot
        have hlt : b < W.heap.size := by
          have := World.block_lt_of_cell? W _ (hD 0 h0).1.1
          rwa [add_plain] at this
        obtain ⟨t, h1, h2, h3⟩ := terms_row (W := W) (b := b) (off := off) D (fun _ => hlt) (fun i hi => by
          have hr := hD i hi
          simp only [add_plain] at hr
          exact hr) len (Nat.le_refl _)
        rw [Nat.sub_self, Nat.zero_mul, Nat.add_zero] at h2
        exact ⟨_, t, rfl, ⟨some ⟨b, off, none⟩, cap, by rw [h1], by rw [h1]; unfold maxLen at hm; omega, b, off, fun _ => rfl, h2⟩, h3⟩
      · obtain rfl : len = 0 := by omega
        exact ⟨_, .nil, rfl, ⟨some ⟨b, off, spot⟩, cap, rfl, by simp [Tl.len], 0, 0, fun h => absurd h (by simp [Tl.len]), trivial⟩, trivial⟩
set_option maxRecDepth 100000 in
theorem term_open {base : Nat} {v : Value} {d : DataW H} {ps : List MemPlace} (hv : Value.okWide Tryz.prog W .any base 28 v) (h : DataW.Trod enc Tryz.prog W 0 (fun _ => true) true 28 v d ps) :
    ∃ (t : Tm) (vp vi vk : Value), v = tmv t vp vi vk ∧ TmIn W t vp vi vk ∧ TmBd t := by
  obtain ⟨cs, rfl, hs⟩ := okWide_struct (Tryz.underlying28) hv
  obtain ⟨fuel, hf⟩ := h
  obtain ⟨k, n, s, vp, ps, dk, dn, ds, vi, is, u, m, y, -, e, bk, bn, hp, bp, bdk, bdn, hi, bi, hu⟩ := term_cells hf
  obtain ⟨v, t, e', hI, hB⟩ := terms_cells m hu
  simp only [List.cons.injEq, and_true] at e'
  subst e'
  refine ⟨⟨k, n, s.data.toList, ps, ⟨dk, dn, ds.data.toList, is⟩, t⟩, vp, vi, _, ?_, ⟨hp, hi, hI⟩, ⟨bk, bn, bp, bdk, bdn, bi, hB⟩⟩
  unfold tmv
  congr 1
  obtain ⟨l⟩ := cs
  simp [Value.cells] at e
  subst e
  simp
end
end Go.Proofs.YtfalcabkdlllnaaGreatDoor
