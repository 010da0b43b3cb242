/- The reference's Same of data, whichever they are. -/
import Derived.Test.YthfelkcomhflnaaDoorQ15
import Derived.Test.YthfelkcomhflnaaDoorQ12
import Derived.Deep.CutRange
import Derived.RegionTactic
namespace Go.Proofs.YthfelkcomhflnaaDoor
open Go.ChangeShapes Go.WideShapes Go.ChangeAt Go.RowKit Go.Deep

/-- every cell that was there is as it was -/
def CellsAs (wr w' : World) : Prop := ∀ p : Addr, p.block < wr.heap.size → w'.cell? p = wr.cell? p
theorem CellsAs.of {wr w' : World} (h : Below wr.heap.size wr w') : CellsAs wr w' := fun _ hp => h.cell hp
theorem below_drew1 {B : Nat} {a w : World} (h : Below B a w) : Below B a w.drew := ⟨h.os, h.tape, h.output, h.size, h.block⟩
def SrOk (x : RM.Dm) : Prop := ∀ (y : RM.Dm) (w : World) (u v : Value), In w u x.is → In w v y.is → Calls Tryd.prog 26 #[dtv x u, dtv y v] w (BoolIff (x = y) w)
set_option maxRecDepth 100000 in
set_option maxHeartbeats 4000000 in
theorem sr_step (k n : Int) (s : List UInt8) (is : RM.Dl) (hP : ∀ i x, is.at_ i = some x → SrOk x) : SrOk ⟨k, n, s, is⟩ := by
  intro y w u v h1 h2
  obtain ⟨k2, n2, s2, ys⟩ := y
  obtain ⟨A1, c1, rfl⟩ := h1.read
  obtain ⟨A2, c2, rfl⟩ := h2.read
  unfold dtv
  simp only at h1 h2 ⊢
  have hl1 := h1.len
  have hl2 := h2.len
  have hiff : ((⟨k, n, s, is⟩ : RM.Dm) = ⟨k2, n2, s2, ys⟩) ↔ (k = k2 ∧ n = n2 ∧ s = s2 ∧ is = ys) := by simp only [RM.Dm.mk.injEq]
  have hiff' := Lib.hid hiff
  have hP' := Lib.hid hP
  have hN0 : is = ys → is.len = ys.len := fun e => by rw [e]
  obtain ⟨N, hN⟩ : ∃ N, is.len = N := ⟨_, rfl⟩
  obtain ⟨M, hM⟩ : ∃ M, ys.len = M := ⟨_, rfl⟩
  rw [hN, hM] at hN0
  rw [hN] at h1 hl1 ⊢
  rw [hM] at h2 hl2 ⊢
  have hN' := Lib.hid hN
  have hM' := Lib.hid hM
  have hN0' := Lib.hid hN0
  have hL1 := (Lies.made w 42 #[.int .i64 k, .int .i64 n, .string ⟨s.toArray⟩, .slice A1 N c1]).alloc (.cells #[.int .i64 k2, .int .i64 n2, .string ⟨s2.toArray⟩, .slice A2 M c2] 42)
  have hz1 : (w.alloc (.cells #[.int .i64 k, .int .i64 n, .string ⟨s.toArray⟩, .slice A1 N c1] 42)).heap.size = w.heap.size + 1 := by simp
  have hL2 := Lies.made (w.alloc (.cells #[.int .i64 k, .int .i64 n, .string ⟨s.toArray⟩, .slice A1 N c1] 42)) 42 #[.int .i64 k2, .int .i64 n2, .string ⟨s2.toArray⟩, .slice A2 M c2]
  rw [hz1] at hL2
  have hba : Below w.heap.size w ((w.alloc (.cells #[.int .i64 k, .int .i64 n, .string ⟨s.toArray⟩, .slice A1 N c1] 42)).alloc (.cells #[.int .i64 k2, .int .i64 n2, .string ⟨s2.toArray⟩, .slice A2 M c2] 42)) := ((Below.refl _ w).alloc (Nat.le_refl _) _).alloc (by simp) _
  clear hP hiff hN hM hN0 hz1
  by_cases hk : k = k2
  · by_cases hn : n = n2
    · by_cases hs : s = s2
      · by_cases hne : N = M
        · subst hk hn hs hne
          go_enter Tryd.func26, Tryd.ntmps26
          go_wp2_with fail
          go_loopw [5] (fun i wr => ∃ (j : Nat), j ≤ N ∧ i = .int .i64 j ∧ Hid (is = ys ↔ SM.dr is j = SM.dr ys j) ∧ Lies wr w.heap.size 42 [.int .i64 k, .int .i64 n, .string ⟨s.toArray⟩, .slice A1 N c1] ∧ Lies wr (w.heap.size + 1) 42 [.int .i64 k, .int .i64 n, .string ⟨s.toArray⟩, .slice A2 N c2] ∧ Below w.heap.size w wr) (fun i _ => N - (intOf i).toNat)
          case atStart => exact ⟨0, Nat.zero_le _, rfl, Lib.hid (by rw [SM.dr_zero, SM.dr_zero]), hL1, hL2, hba⟩
          case round =>
            obtain ⟨j, hj, rfl, hd, hM1, hM2, hb⟩ := hrel
            clear hL1 hL2 hba
            have y3 : wr.cell? ⟨w.heap.size, 3, none⟩ = some (.slice A1 N c1) := hM1.cell 3
            have z3 : wr.cell? ⟨w.heap.size + 1, 3, none⟩ = some (.slice A2 N c2) := hM2.cell 3
            have hlz := hM2.lt
            by_cases hlt : j < N
            · obtain ⟨x, hx⟩ := is.at_some j (by rw [hN'.out]; exact hlt)
              obtain ⟨y, hy⟩ := ys.at_some j (by rw [hM'.out]; exact hlt)
              obtain ⟨g1, o1, B1, b1, rfl, hg1, p0, p1, p2, p3, hd1⟩ := (h1.below hb).at_ hx
              obtain ⟨g2, o2, B2, b2, rfl, hg2, q0, q1, q2, q3, hd2⟩ := (h2.below hb).at_ hy
              have hdr := SM.dr_eq hx hy
              have hC := Lib.hid (hP'.out j x hx y _ _ _ hd1.drew hd2.drew)
              unfold dtv at hC
              have hdr' := Lib.hid hdr
              have hb2 := Lib.hid hb
              clear hx hy hd1 hd2 hdr
              go_wp2_with fail
              refine wp_region_held_drew (S := fun w' => CellsAs wr w') rfl (CellsAs.of (below_drew1 (Below.refl _ wr))) (fun hHeld => ?_)
              refine wpAnyH_take (i := 0) (oi := { dst := some 41, op := Go.Op.fieldAddr 42 (Go.Operand.tmp 2) 3, type := 0, pos := "ref.go:232", after := #[], guard := none }) (v := ?_) rfl (by kernel_rfl) (by kernel_rfl) (by kernel_rfl) (fun _ _ _ h => h) (Or.inl ⟨by rfl, ?_⟩) (by assumption) ?_
              rotate_left
              · intro w hSw; clear hSw; go_simp; try with_reducible rfl
              try simp only [Act.put, List.setIfInBounds_toArray, List.set_cons_zero, List.set_cons_succ]
              refine wpAnyH_take (i := 1) (oi := { dst := some 42, op := Go.Op.load 40 (Go.Operand.tmp 41), type := 40, pos := "ref.go:232", after := #[{ on := 0, ground := Go.Ground.data }], guard := none }) (v := ?_) rfl (by kernel_rfl) (by kernel_rfl) (by kernel_rfl) (fun _ _ _ h => h) (Or.inl ⟨by rfl, ?_⟩) (by assumption) ?_
              rotate_left
              · intro w7 hS7
                have k3 := (hS7 ⟨w.heap.size, 3, none⟩ (by show w.heap.size < wr.heap.size; omega)).trans y3
                clear hS7
                go_simp
                try with_reducible rfl
              try simp only [Act.put, List.setIfInBounds_toArray, List.set_cons_zero, List.set_cons_succ]
              refine wpAnyH_take (i := 2) (oi := { dst := some 43, op := Go.Op.move (Go.Operand.tmp 5), type := 3, pos := "ref.go:232", after := #[], guard := none }) (v := ?_) rfl (by kernel_rfl) (by kernel_rfl) (by kernel_rfl) (fun _ _ _ h => h) (Or.inl ⟨by rfl, ?_⟩) (by assumption) ?_
              rotate_left
              · intro w hSw; clear hSw; go_simp; try with_reducible rfl
              try simp only [Act.put, List.setIfInBounds_toArray, List.set_cons_zero, List.set_cons_succ]
              refine wpAnyH_take (i := 3) (oi := { dst := some 44, op := Go.Op.indexAddr 40 (Go.Operand.tmp 42) (Go.Operand.tmp 43), type := 0, pos := "ref.go:232", after := #[{ on := 1, ground := Go.Ground.data }, { on := 2, ground := Go.Ground.data }], guard := none }) (v := ?_) rfl (by kernel_rfl) (by kernel_rfl) (by kernel_rfl) (fun _ _ _ h => h) (Or.inl ⟨by rfl, ?_⟩) (by assumption) ?_
              rotate_left
              · intro w hSw; clear hSw; go_simp; try with_reducible rfl
              try simp only [Act.put, List.setIfInBounds_toArray, List.set_cons_zero, List.set_cons_succ]
              refine wpAnyH_take (i := 4) (oi := { dst := some 45, op := Go.Op.load 42 (Go.Operand.tmp 44), type := 42, pos := "ref.go:232", after := #[{ on := 3, ground := Go.Ground.data }], guard := none }) (v := ?_) rfl (by kernel_rfl) (by kernel_rfl) (by kernel_rfl) (fun _ _ _ h => h) (Or.inl ⟨by rfl, ?_⟩) (by assumption) ?_
              rotate_left
              · intro w7 hS7
                have l0 := (hS7 ⟨g1, o1 + j * 4, none⟩ hg1).trans p0
                have l1 := (hS7 ⟨g1, o1 + j * 4 + 1, none⟩ hg1).trans p1
                have l2 := (hS7 ⟨g1, o1 + j * 4 + 2, none⟩ hg1).trans p2
                have l3 := (hS7 ⟨g1, o1 + j * 4 + 3, none⟩ hg1).trans p3
                clear hS7
                go_simp
                try with_reducible rfl
              try simp only [Act.put, List.setIfInBounds_toArray, List.set_cons_zero, List.set_cons_succ]
              refine wpAnyH_take (i := 5) (oi := { dst := some 46, op := Go.Op.fieldAddr 42 (Go.Operand.tmp 3) 3, type := 0, pos := "ref.go:232", after := #[], guard := none }) (v := ?_) rfl (by kernel_rfl) (by kernel_rfl) (by kernel_rfl) (fun _ _ _ h => h) (Or.inl ⟨by rfl, ?_⟩) (by assumption) ?_
              rotate_left
              · intro w hSw; clear hSw; go_simp; try with_reducible rfl
              try simp only [Act.put, List.setIfInBounds_toArray, List.set_cons_zero, List.set_cons_succ]
              refine wpAnyH_take (i := 6) (oi := { dst := some 47, op := Go.Op.load 40 (Go.Operand.tmp 46), type := 40, pos := "ref.go:232", after := #[{ on := 5, ground := Go.Ground.data }], guard := none }) (v := ?_) rfl (by kernel_rfl) (by kernel_rfl) (by kernel_rfl) (fun _ _ _ h => h) (Or.inl ⟨by rfl, ?_⟩) (by assumption) ?_
              rotate_left
              · intro w7 hS7
                have k3 := (hS7 ⟨w.heap.size + 1, 3, none⟩ hlz).trans z3
                clear hS7
                go_simp
                try with_reducible rfl
              try simp only [Act.put, List.setIfInBounds_toArray, List.set_cons_zero, List.set_cons_succ]
              refine wpAnyH_take (i := 7) (oi := { dst := some 48, op := Go.Op.move (Go.Operand.tmp 5), type := 3, pos := "ref.go:232", after := #[], guard := none }) (v := ?_) rfl (by kernel_rfl) (by kernel_rfl) (by kernel_rfl) (fun _ _ _ h => h) (Or.inl ⟨by rfl, ?_⟩) (by assumption) ?_
              rotate_left
              · intro w hSw; clear hSw; go_simp; try with_reducible rfl
              try simp only [Act.put, List.setIfInBounds_toArray, List.set_cons_zero, List.set_cons_succ]
              refine wpAnyH_take (i := 8) (oi := { dst := some 49, op := Go.Op.indexAddr 40 (Go.Operand.tmp 47) (Go.Operand.tmp 48), type := 0, pos := "ref.go:232", after := #[{ on := 6, ground := Go.Ground.data }, { on := 7, ground := Go.Ground.data }], guard := none }) (v := ?_) rfl (by kernel_rfl) (by kernel_rfl) (by kernel_rfl) (fun _ _ _ h => h) (Or.inl ⟨by rfl, ?_⟩) (by assumption) ?_
              rotate_left
              · intro w hSw; clear hSw; go_simp; try with_reducible rfl
              try simp only [Act.put, List.setIfInBounds_toArray, List.set_cons_zero, List.set_cons_succ]
              refine wpAnyH_take (i := 9) (oi := { dst := some 50, op := Go.Op.load 42 (Go.Operand.tmp 49), type := 42, pos := "ref.go:232", after := #[{ on := 8, ground := Go.Ground.data }], guard := none }) (v := ?_) rfl (by kernel_rfl) (by kernel_rfl) (by kernel_rfl) (fun _ _ _ h => h) (Or.inl ⟨by rfl, ?_⟩) (by assumption) ?_
              rotate_left
              · intro w7 hS7
                have l0 := (hS7 ⟨g2, o2 + j * 4, none⟩ hg2).trans q0
                have l1 := (hS7 ⟨g2, o2 + j * 4 + 1, none⟩ hg2).trans q1
                have l2 := (hS7 ⟨g2, o2 + j * 4 + 2, none⟩ hg2).trans q2
                have l3 := (hS7 ⟨g2, o2 + j * 4 + 3, none⟩ hg2).trans q3
                clear hS7
                go_simp
                try with_reducible rfl
              try simp only [Act.put, List.setIfInBounds_toArray, List.set_cons_zero, List.set_cons_succ]
              refine wpAnyH_ready (rs := [10]) (by kernel_rfl) (by simp) ?_
              refine AllReadyH.cons (o := { dst := some 51, op := Go.Op.call { callee := Go.Callee.value (Go.Operand.func 26), args := #[Go.Operand.tmp 45, Go.Operand.tmp 50], argTypes := #[42, 42] }, type := 4, pos := "ref.go:232", after := #[{ on := 4, ground := Go.Ground.data }, { on := 9, ground := Go.Ground.data }], guard := none }) rfl (fun K hK => ?_) AllReadyH.nil
              rw [if_pos (by rfl)]
              go_simp
              refine hC.out.mono ?_
              rintro e w5 ⟨r, rfl, hr, hb5⟩
              have hr' := Lib.hid hr
              have hM3 := hM1.drew.below hb5 hM1.lt
              have hM4 := hM2.drew.below hb5 hM2.lt
              have hb6 : Below w.heap.size w w5 := hb2.out.trans (below_of_drew (Below.mono hb5 hb2.out.size))
              have kc : CellsAs wr w5 := CellsAs.of (below_of_drew hb5)
              clear hr hb5 hHeld
              refine hK.out _ _ kc (fun hHeld => ?_)
              clear hK K
              try simp only [Act.put, List.setIfInBounds_toArray, List.set_cons_zero, List.set_cons_succ]
              refine wpAnyH_take (i := 11) (oi := { dst := some 52, op := Go.Op.unOp Go.UnOp.not 4 (Go.Operand.tmp 51), type := 4, pos := "ref.go:232", after := #[{ on := 10, ground := Go.Ground.data }], guard := none }) (v := ?_) rfl (by kernel_rfl) (by kernel_rfl) (by kernel_rfl) (fun _ _ _ h => h) (Or.inl ⟨by rfl, ?_⟩) (by assumption) ?_
              rotate_left
              · intro w hSw; clear hSw; go_simp; try with_reducible rfl
              try simp only [Act.put, List.setIfInBounds_toArray, List.set_cons_zero, List.set_cons_succ]
              refine wpAnyH_done (by kernel_rfl) ?_ _
              cases r
              · go_wp2_with fail
                go_ret
                refine ⟨false, rfl, ?_, hb6⟩
                first
                  | (rw [hd.out, hdr'.out, ← hr'.out]; simp; done)
                  | (rw [hiff'.out, hd.out, hdr'.out, ← hr'.out]; simp)
              · go_wp2_with fail
                go_roundw
                case rel => exact ⟨j + 1, by omega, by go_num, Lib.hid (by rw [hd.out, hdr'.out, ← hr'.out]; simp), hM3, hM4, hb6⟩
                case measure => simp [intOf]; omega
            · obtain rfl : j = N := by omega
              go_wp2_with fail
              go_ret
              refine ⟨true, rfl, ?_, hb⟩
              have he : is = ys := by rw [hd.out, SM.dr_end is j (by rw [hN'.out]; exact Nat.le_refl _), SM.dr_end ys j (by rw [hM'.out]; exact Nat.le_refl _)]
              simp [he]
        · subst hk hn hs
          have hne' := Lib.hid hne
          go_enter Tryd.func26, Tryd.ntmps26
          go_wp2_with fail
          go_ret
          have hno : ¬ is = ys := fun h => hne'.out (hN0'.out h)
          exact ⟨false, rfl, by simp [hno], hba⟩
      · obtain ⟨e1, e2, e3⟩ := str_ne hs
        subst hk hn
        have hs' := Lib.hid hs
        clear hs
        go_enter Tryd.func26, Tryd.ntmps26
        go_wp2_with fail
        go_ret
        exact ⟨false, rfl, by first | (rw [hiff'.out]; simp [hs'.out]; done) | simp, hba⟩
    · subst hk
      have hn' := Lib.hid hn
      go_enter Tryd.func26, Tryd.ntmps26
      go_wp2_with fail
      go_ret
      exact ⟨false, rfl, by first | (rw [hiff'.out]; simp [hn'.out]; done) | simp, hba⟩
  · have hk' := Lib.hid hk
    go_enter Tryd.func26, Tryd.ntmps26
    go_wp2_with fail
    go_ret
    exact ⟨false, rfl, by first | (rw [hiff'.out]; simp [hk'.out]; done) | simp, hba⟩
theorem rsame_any (x : RM.Dm) : SrOk x := RM.Dl.all_of SrOk sr_step (.one x) 0 x (by cases x; rfl)
end Go.Proofs.YthfelkcomhflnaaDoor

/- The reference's Equal of two lists of instructions. -/
namespace Go.Proofs.YthfelkcomhflnaaDoor
open Go.ChangeShapes Go.WideShapes Go.ChangeAt Go.RowKit Go.Deep
open CD (Ins)

theorem strs_eq {a b : List UInt8} : ((⟨a.toArray⟩ : ByteArray) = ⟨b.toArray⟩) ↔ a = b := by
  constructor
  · intro h
    have := congrArg (fun z : ByteArray => z.data.toList) h
    simpa using this
  · intro h; rw [h]
/-- both instructions in boxes -/
structure Two16 (wr wx : World) (a b : Nat) (x y : Ins) (vx vy : Value) : Prop where
  l1 : Lies wx a 44 (icells x vx)
  l2 : Lies wx b 44 (icells y vy)
  low : Below wr.heap.size wr wx
theorem two16 (w1 : World) (c1 c2 : Array Value) : Lies ((w1.alloc (.cells c1 44)).alloc (.cells c2 44)) w1.heap.size 44 c1.toList ∧ Lies ((w1.alloc (.cells c1 44)).alloc (.cells c2 44)) (w1.heap.size + 1) 44 c2.toList ∧ Below w1.heap.size w1 ((w1.alloc (.cells c1 44)).alloc (.cells c2 44)) := by
  have h2 := Lies.made (w1.alloc (.cells c1 44)) 44 c2
  rw [show (w1.alloc (.cells c1 44)).heap.size = w1.heap.size + 1 by simp] at h2
  exact ⟨(Lies.made w1 44 c1).alloc _, h2, ((Below.refl _ w1).alloc (Nat.le_refl _) _).alloc (by simp) _⟩
set_option maxRecDepth 100000 in
set_option maxHeartbeats 8000000 in
theorem requal16_any (l m : List Ins) (w : World) (v u : Value) (h : IIn w v l) (k : IIn w u m) : Calls Tryd.prog 14 #[v, u] w (BoolIff (l = m) w) := by
  have hl := h.len
  have hm := k.len
  obtain ⟨A, c, rfl⟩ := h.read
  obtain ⟨A2, c2, rfl⟩ := k.read
  obtain ⟨L, hL⟩ : ∃ L, l.length = L := ⟨_, rfl⟩
  obtain ⟨M, hM⟩ : ∃ M, m.length = M := ⟨_, rfl⟩
  rw [hL] at h hl ⊢
  rw [hM] at k hm ⊢
  have hL' := Lib.hid hL
  have hM' := Lib.hid hM
  clear hL hM
  unfold BoolIff
  by_cases hne : L = M
  · subst hne
    go_enter Tryd.func14, Tryd.ntmps14
    go_wp2_with fail
    go_loopw [5] (fun i wr => ∃ j : Nat, j ≤ L ∧ i = .int .i64 j ∧ Hid (l.take j = m.take j) ∧ Below w.heap.size w wr) (fun i _ => L - (intOf i).toNat)
    case atStart => exact ⟨0, by omega, rfl, Lib.hid (by simp), Below.refl _ _⟩
    case round =>
      obtain ⟨j, hj, rfl, hf, hb⟩ := hrel
      by_cases hlt : j < L
      · obtain ⟨x, hx⟩ : ∃ x, l[j]? = some x := ⟨_, List.getElem?_eq_getElem (by rw [hL'.out]; exact hlt)⟩
        obtain ⟨y, hy⟩ : ∃ y, m[j]? = some y := ⟨_, List.getElem?_eq_getElem (by rw [hM'.out]; exact hlt)⟩
        obtain ⟨b, o, I, q, rfl, hbl, hd, p0, p1, p2, p3, p4, p5, p6, p7⟩ := (h.below hb).at_ hx
        obtain ⟨b2, o2, I2, q2, rfl, hbl2, hd2, r0, r1, r2, r3, r4, r5, r6, r7⟩ := (k.below hb).at_ hy
        have hx' := Lib.hid hx
        have hy' := Lib.hid hy
        have hd' := Lib.hid hd
        have hd2' := Lib.hid hd2
        clear hx hy hd hd2
        go_upto_region 6 with fail
        go_cut [6, 7] from 13 to 60 (fun s6 s7 wx => ∃ a b, s6 = .pointer (some ⟨a, 0, none⟩) ∧ s7 = .pointer (some ⟨b, 0, none⟩) ∧ Two16 wr wx a b x y (.slice I x.d.is.len q) (.slice I2 y.d.is.len q2))
        case first =>
          go_region
          all_goals
            go_wp2_with fail
            go_meet
          · have t := two16 wr.drew #[.int .i64 x.op, .int .i64 x.a, .int .i64 x.b, .string ⟨x.s.toArray⟩, .int .i64 x.d.k, .int .i64 x.d.n, .string ⟨x.d.s.toArray⟩, .slice I x.d.is.len q] #[.int .i64 y.op, .int .i64 y.a, .int .i64 y.b, .string ⟨y.s.toArray⟩, .int .i64 y.d.k, .int .i64 y.d.n, .string ⟨y.d.s.toArray⟩, .slice I2 y.d.is.len q2]
            exact ⟨_, _, rfl, rfl, ⟨t.1, t.2.1, below_of_drew t.2.2⟩⟩
          · have t := two16 wr.drew #[.int .i64 y.op, .int .i64 y.a, .int .i64 y.b, .string ⟨y.s.toArray⟩, .int .i64 y.d.k, .int .i64 y.d.n, .string ⟨y.d.s.toArray⟩, .slice I2 y.d.is.len q2] #[.int .i64 x.op, .int .i64 x.a, .int .i64 x.b, .string ⟨x.s.toArray⟩, .int .i64 x.d.k, .int .i64 x.d.n, .string ⟨x.d.s.toArray⟩, .slice I x.d.is.len q]
            exact ⟨_, _, rfl, rfl, ⟨t.2.1, t.1, below_of_drew t.2.2⟩⟩
        case rest =>
          obtain ⟨a, b9, rfl, rfl, hTw⟩ := hcut
          have hlow := hTw.low
          have hbw : Below w.heap.size w wc := hb.trans (Below.mono hlow hb.size)
          have hbwN := fun n => below_drewN hbw n
          have hno : x ≠ y → ¬ l = m := fun hxy e => by rw [e, hy'.out] at hx'; have := hx'.out; injection this with this; exact hxy this.symm
          have hno' := Lib.hid hno
          have hS := Lib.hid (rsame_any x.d y.d wc (.slice I x.d.is.len q) (.slice I2 y.d.is.len q2) (hd'.out.below hlow) (hd2'.out.below hlow))
          unfold dtv at hS
          have y0 := hTw.l1.cell 0
          have z0 := hTw.l2.cell 0
          have y1 := hTw.l1.cell 1
          have z1 := hTw.l2.cell 1
          have y2 := hTw.l1.cell 2
          have z2 := hTw.l2.cell 2
          have y3 := hTw.l1.cell 3
          have z3 := hTw.l2.cell 3
          have y4 := hTw.l1.cell 4
          have z4 := hTw.l2.cell 4
          have y5 := hTw.l1.cell 5
          have z5 := hTw.l2.cell 5
          have y6 := hTw.l1.cell 6
          have z6 := hTw.l2.cell 6
          have y7 := hTw.l1.cell 7
          have z7 := hTw.l2.cell 7
          unfold icells at y0 y1 y2 y3 y4 y5 y6 y7 z0 z1 z2 z3 z4 z5 z6 z7
          simp only [List.getElem?_cons_succ, List.getElem?_cons_zero] at y0 y1 y2 y3 y4 y5 y6 y7 z0 z1 z2 z3 z4 z5 z6 z7
          clear p0 p1 p2 p3 p4 p5 p6 p7 r0 r1 r2 r3 r4 r5 r6 r7 hTw hno hbl hbl2
          by_cases h0 : x.op = y.op
          · rw [← h0] at z0
            by_cases h1 : x.a = y.a
            · rw [← h1] at z1
              by_cases h2 : x.b = y.b
              · rw [← h2] at z2
                by_cases h3 : x.s = y.s
                · rw [← h3] at z3
                  go_wp2_with (
                    go_at_call 26
                    refine hS.out.mono ?_
                    rintro e w5 ⟨r, rfl, hr, hb5⟩
                    have hb6 : Below w.heap.size w w5 := hbw.trans (Below.mono hb5 hbw.size)
                    have hr' := Lib.hid hr
                    clear hr hb5)
                  all_goals first
                    | (go_ret
                       have hrf : r = false := (by first | assumption | (have hz : (!r) = true := (by assumption); simpa using hz) | (have hz : ¬ r = true := (by assumption); simpa using hz))
                       subst hrf
                       exact ⟨false, rfl, ⟨(fun e => by cases e), fun e => absurd e (hno'.out (fun e2 => by have := hr'.out.2 (by rw [e2]); cases this))⟩, hb6⟩)
                    | (have hrt : r = true := (by first | assumption | (have hz : (!r) = false := (by assumption); simpa using hz))
                       subst hrt
                       have hxy : x = y := by
                         have h4 := hr'.out.1 rfl
                         cases x; cases y
                         simp only at h0 h1 h2 h3 h4
                         subst h0 h1 h2 h3 h4
                         rfl
                       go_roundw
                       case rel => exact ⟨j + 1, by omega, by go_num, Lib.hid (by rw [List.take_add_one, List.take_add_one, hx'.out, hy'.out, hf.out, hxy]), hb6⟩
                       case measure => simp [intOf]; omega)
                · obtain ⟨e1, e2, e3⟩ := str_ne h3
                  have hn := Lib.hid (hno'.out (fun e => h3 (by rw [e])))
                  go_wp2_with fail
                  go_ret
                  exact ⟨false, rfl, ⟨(fun e => by cases e), fun e => absurd e hn.out⟩, hbw⟩
              · have hn := Lib.hid (hno'.out (fun e => h2 (by rw [e])))
                have e2 : (x.b != y.b) = true := by simp [h2]
                go_wp2_with fail
                go_ret
                exact ⟨false, rfl, ⟨(fun e => by cases e), fun e => absurd e hn.out⟩, hbw⟩
            · have hn := Lib.hid (hno'.out (fun e => h1 (by rw [e])))
              have e2 : (x.a != y.a) = true := by simp [h1]
              go_wp2_with fail
              go_ret
              exact ⟨false, rfl, ⟨(fun e => by cases e), fun e => absurd e hn.out⟩, hbw⟩
          · have hn := Lib.hid (hno'.out (fun e => h0 (by rw [e])))
            have e2 : (x.op != y.op) = true := by simp [h0]
            go_wp2_with fail
            go_ret
            exact ⟨false, rfl, ⟨(fun e => by cases e), fun e => absurd e hn.out⟩, hbw⟩
      · obtain rfl : j = L := by omega
        go_wp2_with fail
        go_ret
        refine ⟨true, rfl, ?_, hb⟩
        have := hf.out
        rw [List.take_of_length_le (by rw [hL'.out]; omega), List.take_of_length_le (by rw [hM'.out]; omega)] at this
        simp [this]
  · have e1 : ((L : Int) == (M : Int)) = false := by simp; omega
    go_enter Tryd.func14, Tryd.ntmps14
    go_wp2_with fail
    go_ret
    exact ⟨false, rfl, ⟨(fun e => by cases e), (fun e => by rw [e, hM'.out] at hL'; exact absurd hL'.out.symm hne)⟩, Below.refl _ _⟩
end Go.Proofs.YthfelkcomhflnaaDoor

