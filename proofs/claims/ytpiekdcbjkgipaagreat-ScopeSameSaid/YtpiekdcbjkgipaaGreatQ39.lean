/- The reference's Same of data, whichever they are. -/
import Derived.Test.YtpiekdcbjkgipaaGreatQ38
namespace Go.Proofs.YtpiekdcbjkgipaaGreat
open Go.ChangeShapes Go.WideShapes Go.ChangeAt Go.RowKit Go.Deep

/-- every cell that was there is as it was -/
def CellsAs (wr w' : World) : Prop := ∀ p : Addr, p.block < wr.heap.size → w'.cell? p = wr.cell? p
theorem CellsAs.of {wr w' : World} (h : Below wr.heap.size wr w') : CellsAs wr w' := fun _ hp => h.cell hp
def SrOk (x : RM.Dm) : Prop := ∀ (y : RM.Dm) (w : World) (u v : Value), In w u x.is → In w v y.is → Calls Tryz.prog 30 #[dtv x u, dtv y v] w (BoolIff (x = y) w)
set_option maxRecDepth 100000 in
set_option maxHeartbeats 4000000 in
theorem sr_step (k n : Int) (s : List UInt8) (is : RM.Dl) (hP : ∀ i x, is.at_ i = some x → SrOk x) : SrOk ⟨k, n, s, is⟩ := by
  intro y w u v h1 h2
  obtain ⟨k2, n2, s2, ys⟩ := y
  obtain ⟨A1, c1, rfl⟩ := h1.read
  obtain ⟨A2, c2, rfl⟩ := h2.read
  unfold dtv
  simp only at h1 h2 ⊢
  have hl1 := h1.len
  have hl2 := h2.len
  have hiff : ((⟨k, n, s, is⟩ : RM.Dm) = ⟨k2, n2, s2, ys⟩) ↔ (k = k2 ∧ n = n2 ∧ s = s2 ∧ is = ys) := by simp only [RM.Dm.mk.injEq]
  have hiff' := Lib.hid hiff
  have hP' := Lib.hid hP
  have hN0 : is = ys → is.len = ys.len := fun e => by rw [e]
  obtain ⟨N, hN⟩ : ∃ N, is.len = N := ⟨_, rfl⟩
  obtain ⟨M, hM⟩ : ∃ M, ys.len = M := ⟨_, rfl⟩
  rw [hN, hM] at hN0
  rw [hN] at h1 hl1 ⊢
  rw [hM] at h2 hl2 ⊢
  have hN' := Lib.hid hN
  have hM' := Lib.hid hM
  have hN0' := Lib.hid hN0
  have hL1 := (Lies.made w 25 #[.int .i64 k, .int .i64 n, .string ⟨s.toArray⟩, .slice A1 N c1]).alloc (.cells #[.int .i64 k2, .int .i64 n2, .string ⟨s2.toArray⟩, .slice A2 M c2] 25)
  have hz1 : (w.alloc (.cells #[.int .i64 k, .int .i64 n, .string ⟨s.toArray⟩, .slice A1 N c1] 25)).heap.size = w.heap.size + 1 := by simp
  have hL2 := Lies.made (w.alloc (.cells #[.int .i64 k, .int .i64 n, .string ⟨s.toArray⟩, .slice A1 N c1] 25)) 25 #[.int .i64 k2, .int .i64 n2, .string ⟨s2.toArray⟩, .slice A2 M c2]
  rw [hz1] at hL2
  have hba : Below w.heap.size w ((w.alloc (.cells #[.int .i64 k, .int .i64 n, .string ⟨s.toArray⟩, .slice A1 N c1] 25)).alloc (.cells #[.int .i64 k2, .int .i64 n2, .string ⟨s2.toArray⟩, .slice A2 M c2] 25)) := ((Below.refl _ w).alloc (Nat.le_refl _) _).alloc (by simp) _
  clear hP hiff hN hM hN0 hz1
  by_cases hk : k = k2
  · by_cases hn : n = n2
    · by_cases hs : s = s2
      · by_cases hne : N = M
        · subst hk hn hs hne
          go_enter Tryz.func30, Tryz.ntmps30
          go_wp2_with fail
          go_loopw [5] (fun i wr => ∃ (j : Nat), j ≤ N ∧ i = .int .i64 j ∧ Hid (is = ys ↔ SM.dr is j = SM.dr ys j) ∧ Lies wr w.heap.size 25 [.int .i64 k, .int .i64 n, .string ⟨s.toArray⟩, .slice A1 N c1] ∧ Lies wr (w.heap.size + 1) 25 [.int .i64 k, .int .i64 n, .string ⟨s.toArray⟩, .slice A2 N c2] ∧ Below w.heap.size w wr) (fun i _ => N - (intOf i).toNat)
          case atStart => exact ⟨0, Nat.zero_le _, rfl, Lib.hid (by rw [SM.dr_zero, SM.dr_zero]), hL1, hL2, hba⟩
          case round =>
            obtain ⟨j, hj, rfl, hd, hM1, hM2, hb⟩ := hrel
            clear hL1 hL2 hba
            have y3 : wr.cell? ⟨w.heap.size, 3, none⟩ = some (.slice A1 N c1) := hM1.cell 3
            have z3 : wr.cell? ⟨w.heap.size + 1, 3, none⟩ = some (.slice A2 N c2) := hM2.cell 3
            have hlz := hM2.lt
            by_cases hlt : j < N
            · obtain ⟨x, hx⟩ := is.at_some j (by rw [hN'.out]; exact hlt)
              obtain ⟨y, hy⟩ := ys.at_some j (by rw [hM'.out]; exact hlt)
              obtain ⟨g1, o1, B1, b1, rfl, hg1, p0, p1, p2, p3, hd1⟩ := (h1.below hb).at_ hx
              obtain ⟨g2, o2, B2, b2, rfl, hg2, q0, q1, q2, q3, hd2⟩ := (h2.below hb).at_ hy
              have hdr := SM.dr_eq hx hy
              have hC := Lib.hid (hP'.out j x hx y _ _ _ hd1.drew hd2.drew)
              unfold dtv at hC
              have hdr' := Lib.hid hdr
              have hb2 := Lib.hid hb
              clear hx hy hd1 hd2 hdr
              go_wp2_with fail
              refine wp_region_held_drew (S := fun w' => CellsAs wr w') rfl (CellsAs.of (below_drew1 (Below.refl _ wr))) (fun hHeld => ?_)
              refine wpAnyH_take (i := 0) (oi := { dst := some 41, op := Go.Op.fieldAddr 25 (Go.Operand.tmp 2) 3, type := 0, pos := "ref.go:232", after := #[], guard := none }) (v := ?_) rfl (by kernel_rfl) (by kernel_rfl) (by kernel_rfl) (fun _ _ _ h => h) (Or.inl ⟨by rfl, ?_⟩) (by assumption) ?_
              rotate_left
              · intro w hSw; clear hSw; go_simp; try with_reducible rfl
              try simp only [Act.put, List.setIfInBounds_toArray, List.set_cons_zero, List.set_cons_succ]
              refine wpAnyH_take (i := 1) (oi := { dst := some 42, op := Go.Op.load 23 (Go.Operand.tmp 41), type := 23, pos := "ref.go:232", after := #[{ on := 0, ground := Go.Ground.data }], guard := none }) (v := ?_) rfl (by kernel_rfl) (by kernel_rfl) (by kernel_rfl) (fun _ _ _ h => h) (Or.inl ⟨by rfl, ?_⟩) (by assumption) ?_
              rotate_left
              · intro w7 hS7
                have k3 := (hS7 ⟨w.heap.size, 3, none⟩ (by show w.heap.size < wr.heap.size; omega)).trans y3
                clear hS7
                go_simp
                try with_reducible rfl
              try simp only [Act.put, List.setIfInBounds_toArray, List.set_cons_zero, List.set_cons_succ]
              refine wpAnyH_take (i := 2) (oi := { dst := some 43, op := Go.Op.move (Go.Operand.tmp 5), type := 3, pos := "ref.go:232", after := #[], guard := none }) (v := ?_) rfl (by kernel_rfl) (by kernel_rfl) (by kernel_rfl) (fun _ _ _ h => h) (Or.inl ⟨by rfl, ?_⟩) (by assumption) ?_
              rotate_left
              · intro w hSw; clear hSw; go_simp; try with_reducible rfl
              try simp only [Act.put, List.setIfInBounds_toArray, List.set_cons_zero, List.set_cons_succ]
              refine wpAnyH_take (i := 3) (oi := { dst := some 44, op := Go.Op.indexAddr 23 (Go.Operand.tmp 42) (Go.Operand.tmp 43), type := 0, pos := "ref.go:232", after := #[{ on := 1, ground := Go.Ground.data }, { on := 2, ground := Go.Ground.data }], guard := none }) (v := ?_) rfl (by kernel_rfl) (by kernel_rfl) (by kernel_rfl) (fun _ _ _ h => h) (Or.inl ⟨by rfl, ?_⟩) (by assumption) ?_
              rotate_left
              · intro w hSw; clear hSw; go_simp; try with_reducible rfl
              try simp only [Act.put, List.setIfInBounds_toArray, List.set_cons_zero, List.set_cons_succ]
              refine wpAnyH_take (i := 4) (oi := { dst := some 45, op := Go.Op.load 25 (Go.Operand.tmp 44), type := 25, pos := "ref.go:232", after := #[{ on := 3, ground := Go.Ground.data }], guard := none }) (v := ?_) rfl (by kernel_rfl) (by kernel_rfl) (by kernel_rfl) (fun _ _ _ h => h) (Or.inl ⟨by rfl, ?_⟩) (by assumption) ?_
              rotate_left
              · intro w7 hS7
                have l0 := (hS7 ⟨g1, o1 + j * 4, none⟩ hg1).trans p0
                have l1 := (hS7 ⟨g1, o1 + j * 4 + 1, none⟩ hg1).trans p1
                have l2 := (hS7 ⟨g1, o1 + j * 4 + 2, none⟩ hg1).trans p2
                have l3 := (hS7 ⟨g1, o1 + j * 4 + 3, none⟩ hg1).trans p3
                clear hS7
                go_simp
                try with_reducible rfl
              try simp only [Act.put, List.setIfInBounds_toArray, List.set_cons_zero, List.set_cons_succ]
              refine wpAnyH_take (i := 5) (oi := { dst := some 46, op := Go.Op.fieldAddr 25 (Go.Operand.tmp 3) 3, type := 0, pos := "ref.go:232", after := #[], guard := none }) (v := ?_) rfl (by kernel_rfl) (by kernel_rfl) (by kernel_rfl) (fun _ _ _ h => h) (Or.inl ⟨by rfl, ?_⟩) (by assumption) ?_
              rotate_left
              · intro w hSw; clear hSw; go_simp; try with_reducible rfl
              try simp only [Act.put, List.setIfInBounds_toArray, List.set_cons_zero, List.set_cons_succ]
              refine wpAnyH_take (i := 6) (oi := { dst := some 47, op := Go.Op.load 23 (Go.Operand.tmp 46), type := 23, pos := "ref.go:232", after := #[{ on := 5, ground := Go.Ground.data }], guard := none }) (v := ?_) rfl (by kernel_rfl) (by kernel_rfl) (by kernel_rfl) (fun _ _ _ h => h) (Or.inl ⟨by rfl, ?_⟩) (by assumption) ?_
              rotate_left
              · intro w7 hS7
                have k3 := (hS7 ⟨w.heap.size + 1, 3, none⟩ hlz).trans z3
                clear hS7
                go_simp
                try with_reducible rfl
              try simp only [Act.put, List.setIfInBounds_toArray, List.set_cons_zero, List.set_cons_succ]
              refine wpAnyH_take (i := 7) (oi := { dst := some 48, op := Go.Op.move (Go.Operand.tmp 5), type := 3, pos := "ref.go:232", after := #[], guard := none }) (v := ?_) rfl (by kernel_rfl) (by kernel_rfl) (by kernel_rfl) (fun _ _ _ h => h) (Or.inl ⟨by rfl, ?_⟩) (by assumption) ?_
              rotate_left
              · intro w hSw; clear hSw; go_simp; try with_reducible rfl
              try simp only [Act.put, List.setIfInBounds_toArray, List.set_cons_zero, List.set_cons_succ]
              refine wpAnyH_take (i := 8) (oi := { dst := some 49, op := Go.Op.indexAddr 23 (Go.Operand.tmp 47) (Go.Operand.tmp 48), type := 0, pos := "ref.go:232", after := #[{ on := 6, ground := Go.Ground.data }, { on := 7, ground := Go.Ground.data }], guard := none }) (v := ?_) rfl (by kernel_rfl) (by kernel_rfl) (by kernel_rfl) (fun _ _ _ h => h) (Or.inl ⟨by rfl, ?_⟩) (by assumption) ?_
              rotate_left
              · intro w hSw; clear hSw; go_simp; try with_reducible rfl
              try simp only [Act.put, List.setIfInBounds_toArray, List.set_cons_zero, List.set_cons_succ]
              refine wpAnyH_take (i := 9) (oi := { dst := some 50, op := Go.Op.load 25 (Go.Operand.tmp 49), type := 25, pos := "ref.go:232", after := #[{ on := 8, ground := Go.Ground.data }], guard := none }) (v := ?_) rfl (by kernel_rfl) (by kernel_rfl) (by kernel_rfl) (fun _ _ _ h => h) (Or.inl ⟨by rfl, ?_⟩) (by assumption) ?_
              rotate_left
              · intro w7 hS7
                have l0 := (hS7 ⟨g2, o2 + j * 4, none⟩ hg2).trans q0
                have l1 := (hS7 ⟨g2, o2 + j * 4 + 1, none⟩ hg2).trans q1
                have l2 := (hS7 ⟨g2, o2 + j * 4 + 2, none⟩ hg2).trans q2
                have l3 := (hS7 ⟨g2, o2 + j * 4 + 3, none⟩ hg2).trans q3
                clear hS7
                go_simp
                try with_reducible rfl
              try simp only [Act.put, List.setIfInBounds_toArray, List.set_cons_zero, List.set_cons_succ]
              refine wpAnyH_ready (rs := [10]) (by kernel_rfl) (by simp) ?_
              refine AllReadyH.cons (o := { dst := some 51, op := Go.Op.call { callee := Go.Callee.value (Go.Operand.func 30), args := #[Go.Operand.tmp 45, Go.Operand.tmp 50], argTypes := #[25, 25] }, type := 4, pos := "ref.go:232", after := #[{ on := 4, ground := Go.Ground.data }, { on := 9, ground := Go.Ground.data }], guard := none }) rfl (fun K hK => ?_) AllReadyH.nil
              rw [if_pos (by rfl)]
              go_simp
              refine hC.out.mono ?_
              rintro e w5 ⟨r, rfl, hr, hb5⟩
              have hr' := Lib.hid hr
              have hM3 := hM1.drew.below hb5 hM1.lt
              have hM4 := hM2.drew.below hb5 hM2.lt
              have hb6 : Below w.heap.size w w5 := hb2.out.trans (below_of_drew (Below.mono hb5 hb2.out.size))
              have kc : CellsAs wr w5 := CellsAs.of (below_of_drew hb5)
              clear hr hb5 hHeld
              refine hK.out _ _ kc (fun hHeld => ?_)
              clear hK K
              try simp only [Act.put, List.setIfInBounds_toArray, List.set_cons_zero, List.set_cons_succ]
              refine wpAnyH_take (i := 11) (oi := { dst := some 52, op := Go.Op.unOp Go.UnOp.not 4 (Go.Operand.tmp 51), type := 4, pos := "ref.go:232", after := #[{ on := 10, ground := Go.Ground.data }], guard := none }) (v := ?_) rfl (by kernel_rfl) (by kernel_rfl) (by kernel_rfl) (fun _ _ _ h => h) (Or.inl ⟨by rfl, ?_⟩) (by assumption) ?_
              rotate_left
              · intro w hSw; clear hSw; go_simp; try with_reducible rfl
              try simp only [Act.put, List.setIfInBounds_toArray, List.set_cons_zero, List.set_cons_succ]
              refine wpAnyH_done (by kernel_rfl) ?_ _
              cases r
              · go_wp2_with fail
                go_ret
                refine ⟨false, rfl, ?_, hb6⟩
                first
                  | (rw [hd.out, hdr'.out, ← hr'.out]; simp; done)
                  | (rw [hiff'.out, hd.out, hdr'.out, ← hr'.out]; simp)
              · go_wp2_with fail
                go_roundw
                case rel => exact ⟨j + 1, by omega, by go_num, Lib.hid (by rw [hd.out, hdr'.out, ← hr'.out]; simp), hM3, hM4, hb6⟩
                case measure => simp [intOf]; omega
            · obtain rfl : j = N := by omega
              go_wp2_with fail
              go_ret
              refine ⟨true, rfl, ?_, hb⟩
              have he : is = ys := by rw [hd.out, SM.dr_end is j (by rw [hN'.out]; exact Nat.le_refl _), SM.dr_end ys j (by rw [hM'.out]; exact Nat.le_refl _)]
              simp [he]
        · subst hk hn hs
          have hne' := Lib.hid hne
          go_enter Tryz.func30, Tryz.ntmps30
          go_wp2_with fail
          go_ret
          have hno : ¬ is = ys := fun h => hne'.out (hN0'.out h)
          exact ⟨false, rfl, by simp [hno], hba⟩
      · obtain ⟨e1, e2, e3⟩ := str_ne hs
        subst hk hn
        have hs' := Lib.hid hs
        clear hs
        go_enter Tryz.func30, Tryz.ntmps30
        go_wp2_with fail
        go_ret
        exact ⟨false, rfl, by first | (rw [hiff'.out]; simp [hs'.out]; done) | simp, hba⟩
    · subst hk
      have hn' := Lib.hid hn
      go_enter Tryz.func30, Tryz.ntmps30
      go_wp2_with fail
      go_ret
      exact ⟨false, rfl, by first | (rw [hiff'.out]; simp [hn'.out]; done) | simp, hba⟩
  · have hk' := Lib.hid hk
    go_enter Tryz.func30, Tryz.ntmps30
    go_wp2_with fail
    go_ret
    exact ⟨false, rfl, by first | (rw [hiff'.out]; simp [hk'.out]; done) | simp, hba⟩
theorem rsame_any (x : RM.Dm) : SrOk x := RM.Dl.all_of SrOk sr_step (.one x) 0 x (by cases x; rfl)
end Go.Proofs.YtpiekdcbjkgipaaGreat
