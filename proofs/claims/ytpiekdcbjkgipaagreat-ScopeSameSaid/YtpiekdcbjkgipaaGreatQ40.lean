/- The reference's Equal of terms. -/
import Derived.Test.YtpiekdcbjkgipaaGreatQ39
namespace Go.Proofs.YtpiekdcbjkgipaaGreat
open Go.ChangeShapes Go.WideShapes Go.ChangeAt Go.RowKit Go.Deep
open TM (Tl Tm)

def EqOk (x : Tm) : Prop := ∀ (y : Tm) (w : World) (u1 u2 u3 v1 v2 v3 : Value), TmIn w x u1 u2 u3 → TmIn w y v1 v2 v3 → Calls Tryz.prog 12 #[tmv x u1 u2 u3, tmv y v1 v2 v3] w (BoolIff (x = y) w)
set_option maxRecDepth 100000 in
set_option maxHeartbeats 8000000 in
theorem eq_step (k n : Int) (s : List UInt8) (ps : List Int) (d : RM.Dm) (ks : Tl) (hP : ∀ i x, ks.at_ i = some x → EqOk x) : EqOk ⟨k, n, s, ps, d, ks⟩ := by
  intro y w u1 u2 u3 v1 v2 v3 h1 h2
  obtain ⟨k2, n2, s2, ps2, d2, ks2⟩ := y
  have hD := Lib.hid (fun (w' : World) (hb : Below w.heap.size w w') => rsame_any d d2 w' _ _ (h1.d.below hb) (h2.d.below hb))
  have hp1 := h1.p
  have hp2 := h2.p
  have hk1 := h1.k
  have hk2 := h2.k
  obtain ⟨P1, r1, rfl⟩ := h1.p.read
  obtain ⟨P2, r2, rfl⟩ := h2.p.read
  obtain ⟨I1, i1, rfl⟩ := h1.d.read
  obtain ⟨I2, i2, rfl⟩ := h2.d.read
  obtain ⟨A1, c1, rfl⟩ := h1.k.read
  obtain ⟨A2, c2, rfl⟩ := h2.k.read
  unfold tmv
  unfold dtv at hD
  simp only at hD hp1 hp2 hk1 hk2 ⊢
  have hl1 := hp1.len
  have hl2 := hp2.len
  have hl3 := hk1.len
  have hl4 := hk2.len
  have hiff : ((⟨k, n, s, ps, d, ks⟩ : Tm) = ⟨k2, n2, s2, ps2, d2, ks2⟩) ↔ (k = k2 ∧ n = n2 ∧ s = s2 ∧ ps = ps2 ∧ d = d2 ∧ ks = ks2) := by simp only [Tm.mk.injEq]
  have hiff' := Lib.hid hiff
  have hP' := Lib.hid hP
  have hL0 : ps = ps2 → ps.length = ps2.length := fun e => by rw [e]
  have hN0 : ks = ks2 → ks.len = ks2.len := fun e => by rw [e]
  obtain ⟨L1, hL1e⟩ : ∃ x, ps.length = x := ⟨_, rfl⟩
  obtain ⟨L2, hL2e⟩ : ∃ x, ps2.length = x := ⟨_, rfl⟩
  obtain ⟨J1, hJ1⟩ : ∃ x, d.is.len = x := ⟨_, rfl⟩
  obtain ⟨J2, hJ2⟩ : ∃ x, d2.is.len = x := ⟨_, rfl⟩
  obtain ⟨N1, hN1e⟩ : ∃ x, ks.len = x := ⟨_, rfl⟩
  obtain ⟨N2, hN2e⟩ : ∃ x, ks2.len = x := ⟨_, rfl⟩
  rw [hL1e, hL2e] at hL0
  rw [hN1e, hN2e] at hN0
  rw [hJ1, hJ2] at hD
  rw [hL1e] at hp1 hl1
  rw [hL2e] at hp2 hl2
  rw [hN1e] at hk1 hl3
  rw [hN2e] at hk2 hl4
  rw [hL1e, hL2e, hJ1, hJ2, hN1e, hN2e]
  have hL1' := Lib.hid hL1e
  have hL2' := Lib.hid hL2e
  have hN1' := Lib.hid hN1e
  have hN2' := Lib.hid hN2e
  have hL0' := Lib.hid hL0
  have hN0' := Lib.hid hN0
  have hB1 := (Lies.made w 28 #[.int .i64 k, .int .i64 n, .string ⟨s.toArray⟩, .slice P1 L1 r1, .int .i64 d.k, .int .i64 d.n, .string ⟨d.s.toArray⟩, .slice I1 J1 i1, .slice A1 N1 c1]).alloc (.cells #[.int .i64 k2, .int .i64 n2, .string ⟨s2.toArray⟩, .slice P2 L2 r2, .int .i64 d2.k, .int .i64 d2.n, .string ⟨d2.s.toArray⟩, .slice I2 J2 i2, .slice A2 N2 c2] 28)
  have hz1 : (w.alloc (.cells #[.int .i64 k, .int .i64 n, .string ⟨s.toArray⟩, .slice P1 L1 r1, .int .i64 d.k, .int .i64 d.n, .string ⟨d.s.toArray⟩, .slice I1 J1 i1, .slice A1 N1 c1] 28)).heap.size = w.heap.size + 1 := by simp
  have hB2 := Lies.made (w.alloc (.cells #[.int .i64 k, .int .i64 n, .string ⟨s.toArray⟩, .slice P1 L1 r1, .int .i64 d.k, .int .i64 d.n, .string ⟨d.s.toArray⟩, .slice I1 J1 i1, .slice A1 N1 c1] 28)) 28 #[.int .i64 k2, .int .i64 n2, .string ⟨s2.toArray⟩, .slice P2 L2 r2, .int .i64 d2.k, .int .i64 d2.n, .string ⟨d2.s.toArray⟩, .slice I2 J2 i2, .slice A2 N2 c2]
  rw [hz1] at hB2
  have hba : Below w.heap.size w ((w.alloc (.cells #[.int .i64 k, .int .i64 n, .string ⟨s.toArray⟩, .slice P1 L1 r1, .int .i64 d.k, .int .i64 d.n, .string ⟨d.s.toArray⟩, .slice I1 J1 i1, .slice A1 N1 c1] 28)).alloc (.cells #[.int .i64 k2, .int .i64 n2, .string ⟨s2.toArray⟩, .slice P2 L2 r2, .int .i64 d2.k, .int .i64 d2.n, .string ⟨d2.s.toArray⟩, .slice I2 J2 i2, .slice A2 N2 c2] 28)) := ((Below.refl _ w).alloc (Nat.le_refl _) _).alloc (by simp) _
  clear hP hiff hL1e hL2e hJ1 hJ2 hN1e hN2e hL0 hN0 hz1 h1 h2
  by_cases hk : k = k2
  · by_cases hn : n = n2
    · by_cases hs : s = s2
      · by_cases hpl : L1 = L2
        · by_cases hne : N1 = N2
          · subst hk hn hs hpl hne
            go_enter Tryz.func12, Tryz.ntmps12
            go_wp2_with (
              go_at_call 30
              refine (hD.out _ hba).mono ?_
              rintro e w3 ⟨rd, rfl, hrd, hb3⟩
              have hrd' := Lib.hid hrd
              have hM1 := hB1.below hb3 hB1.lt
              have hM2 := hB2.below hb3 hB2.lt
              have hb4 := hba.trans (Below.mono hb3 hba.size)
              clear hrd hb3)
            · go_ret
              refine ⟨false, rfl, ?_, hb4⟩
              have hno : ¬ d = d2 := fun e => by have := hrd'.out.2 e; simp_all
              first
                | (rw [hiff'.out]; simp [hno]; done)
                | simp [hno]
            obtain rfl : rd = true := by simp_all
            have hdd : d = d2 := hrd'.out.1 rfl
            have hdd' := Lib.hid hdd
            clear hdd hrd' hB1 hB2 hba
            go_loopw [5] (fun i wr => ∃ (j : Nat), j ≤ L1 ∧ i = .int .i64 j ∧ Hid (ps.take j = ps2.take j) ∧ Lies wr w.heap.size 28 [.int .i64 k, .int .i64 n, .string ⟨s.toArray⟩, .slice P1 L1 r1, .int .i64 d.k, .int .i64 d.n, .string ⟨d.s.toArray⟩, .slice I1 J1 i1, .slice A1 N1 c1] ∧ Lies wr (w.heap.size + 1) 28 [.int .i64 k, .int .i64 n, .string ⟨s.toArray⟩, .slice P2 L1 r2, .int .i64 d2.k, .int .i64 d2.n, .string ⟨d2.s.toArray⟩, .slice I2 J2 i2, .slice A2 N1 c2] ∧ Below w.heap.size w wr) (fun i _ => L1 - (intOf i).toNat)
            case atStart => exact ⟨0, Nat.zero_le _, rfl, Lib.hid (by simp), hM1, hM2, hb4⟩
            case round =>
              obtain ⟨j, hj, rfl, hd, hM1, hM2, hb⟩ := hrel
              have y3 : wr.cell? ⟨w.heap.size, 3, none⟩ = some (.slice P1 L1 r1) := hM1.cell 3
              have z3 : wr.cell? ⟨w.heap.size + 1, 3, none⟩ = some (.slice P2 L1 r2) := hM2.cell 3
              have hlz := hM2.lt
              by_cases hlt : j < L1
              · have hx : ps[j]? = some (ps[j]'(by rw [hL1'.out]; exact hlt)) := List.getElem?_eq_getElem _
                obtain ⟨x, hxe⟩ : ∃ x, ps[j]'(by rw [hL1'.out]; exact hlt) = x := ⟨_, rfl⟩
                have hy : ps2[j]? = some (ps2[j]'(by rw [hL2'.out]; exact hlt)) := List.getElem?_eq_getElem _
                obtain ⟨y, hye⟩ : ∃ y, ps2[j]'(by rw [hL2'.out]; exact hlt) = y := ⟨_, rfl⟩
                rw [hxe] at hx
                rw [hye] at hy
                obtain ⟨g1, o1, rfl, hg1, p0⟩ := (hp1.below hb).cell hx
                obtain ⟨g2, o2, rfl, hg2, q0⟩ := (hp2.below hb).cell hy
                have ht : ps.take (j + 1) = ps2.take (j + 1) ↔ x = y := by
                  rw [List.take_add_one, List.take_add_one, hx, hy, hd.out]
                  simp
                have hno : ¬ x = y → ¬ ps = ps2 := fun h e => by
                  rw [e, hy] at hx
                  exact h (by injection hx with hx; exact hx.symm)
                have ht' := Lib.hid ht
                have hno' := Lib.hid hno
                clear hx hy hxe hye ht hno
                by_cases hxy : x = y
                · subst hxy
                  go_wp2_with fail
                  refine wp_region_held_drew (S := fun w' => CellsAs wr w') rfl (CellsAs.of (below_drew1 (Below.refl _ wr))) (fun hHeld => ?_)
                  refine wpAnyH_take (i := 0) (oi := { dst := some 59, op := Go.Op.fieldAddr 28 (Go.Operand.tmp 2) 3, type := 0, pos := "ref.go:153", after := #[], guard := none }) (v := ?_) rfl (by kernel_rfl) (by kernel_rfl) (by kernel_rfl) (fun _ _ _ h => h) (Or.inl ⟨by rfl, ?_⟩) (by assumption) ?_
                  rotate_left
                  · intro w hSw; clear hSw; go_simp; try with_reducible rfl
                  try simp only [Act.put, List.setIfInBounds_toArray, List.set_cons_zero, List.set_cons_succ]
                  refine wpAnyH_take (i := 1) (oi := { dst := some 60, op := Go.Op.load 22 (Go.Operand.tmp 59), type := 22, pos := "ref.go:153", after := #[{ on := 0, ground := Go.Ground.data }], guard := none }) (v := ?_) rfl (by kernel_rfl) (by kernel_rfl) (by kernel_rfl) (fun _ _ _ h => h) (Or.inl ⟨by rfl, ?_⟩) (by assumption) ?_
                  rotate_left
                  · intro w7 hS7
                    have k3 := (hS7 ⟨w.heap.size, 3, none⟩ (by show w.heap.size < wr.heap.size; omega)).trans y3
                    clear hS7
                    go_simp
                    try with_reducible rfl
                  try simp only [Act.put, List.setIfInBounds_toArray, List.set_cons_zero, List.set_cons_succ]
                  refine wpAnyH_take (i := 2) (oi := { dst := some 61, op := Go.Op.move (Go.Operand.tmp 5), type := 3, pos := "ref.go:153", after := #[], guard := none }) (v := ?_) rfl (by kernel_rfl) (by kernel_rfl) (by kernel_rfl) (fun _ _ _ h => h) (Or.inl ⟨by rfl, ?_⟩) (by assumption) ?_
                  rotate_left
                  · intro w hSw; clear hSw; go_simp; try with_reducible rfl
                  try simp only [Act.put, List.setIfInBounds_toArray, List.set_cons_zero, List.set_cons_succ]
                  refine wpAnyH_take (i := 3) (oi := { dst := some 62, op := Go.Op.indexAddr 22 (Go.Operand.tmp 60) (Go.Operand.tmp 61), type := 0, pos := "ref.go:153", after := #[{ on := 1, ground := Go.Ground.data }, { on := 2, ground := Go.Ground.data }], guard := none }) (v := ?_) rfl (by kernel_rfl) (by kernel_rfl) (by kernel_rfl) (fun _ _ _ h => h) (Or.inl ⟨by rfl, ?_⟩) (by assumption) ?_
                  rotate_left
                  · intro w hSw; clear hSw; go_simp; try with_reducible rfl
                  try simp only [Act.put, List.setIfInBounds_toArray, List.set_cons_zero, List.set_cons_succ]
                  refine wpAnyH_take (i := 4) (oi := { dst := some 63, op := Go.Op.load 3 (Go.Operand.tmp 62), type := 3, pos := "ref.go:153", after := #[{ on := 3, ground := Go.Ground.data }], guard := none }) (v := ?_) rfl (by kernel_rfl) (by kernel_rfl) (by kernel_rfl) (fun _ _ _ h => h) (Or.inl ⟨by rfl, ?_⟩) (by assumption) ?_
                  rotate_left
                  · intro w7 hS7
                    have l0 := (hS7 ⟨g1, o1 + j, none⟩ hg1).trans p0
                    clear hS7
                    go_simp
                    try with_reducible rfl
                  try simp only [Act.put, List.setIfInBounds_toArray, List.set_cons_zero, List.set_cons_succ]
                  refine wpAnyH_take (i := 5) (oi := { dst := some 64, op := Go.Op.fieldAddr 28 (Go.Operand.tmp 3) 3, type := 0, pos := "ref.go:153", after := #[], guard := none }) (v := ?_) rfl (by kernel_rfl) (by kernel_rfl) (by kernel_rfl) (fun _ _ _ h => h) (Or.inl ⟨by rfl, ?_⟩) (by assumption) ?_
                  rotate_left
                  · intro w hSw; clear hSw; go_simp; try with_reducible rfl
                  try simp only [Act.put, List.setIfInBounds_toArray, List.set_cons_zero, List.set_cons_succ]
                  refine wpAnyH_take (i := 6) (oi := { dst := some 65, op := Go.Op.load 22 (Go.Operand.tmp 64), type := 22, pos := "ref.go:153", after := #[{ on := 5, ground := Go.Ground.data }], guard := none }) (v := ?_) rfl (by kernel_rfl) (by kernel_rfl) (by kernel_rfl) (fun _ _ _ h => h) (Or.inl ⟨by rfl, ?_⟩) (by assumption) ?_
                  rotate_left
                  · intro w7 hS7
                    have k3 := (hS7 ⟨w.heap.size + 1, 3, none⟩ hlz).trans z3
                    clear hS7
                    go_simp
                    try with_reducible rfl
                  try simp only [Act.put, List.setIfInBounds_toArray, List.set_cons_zero, List.set_cons_succ]
                  refine wpAnyH_take (i := 7) (oi := { dst := some 66, op := Go.Op.move (Go.Operand.tmp 5), type := 3, pos := "ref.go:153", after := #[], guard := none }) (v := ?_) rfl (by kernel_rfl) (by kernel_rfl) (by kernel_rfl) (fun _ _ _ h => h) (Or.inl ⟨by rfl, ?_⟩) (by assumption) ?_
                  rotate_left
                  · intro w hSw; clear hSw; go_simp; try with_reducible rfl
                  try simp only [Act.put, List.setIfInBounds_toArray, List.set_cons_zero, List.set_cons_succ]
                  refine wpAnyH_take (i := 8) (oi := { dst := some 67, op := Go.Op.indexAddr 22 (Go.Operand.tmp 65) (Go.Operand.tmp 66), type := 0, pos := "ref.go:153", after := #[{ on := 6, ground := Go.Ground.data }, { on := 7, ground := Go.Ground.data }], guard := none }) (v := ?_) rfl (by kernel_rfl) (by kernel_rfl) (by kernel_rfl) (fun _ _ _ h => h) (Or.inl ⟨by rfl, ?_⟩) (by assumption) ?_
                  rotate_left
                  · intro w hSw; clear hSw; go_simp; try with_reducible rfl
                  try simp only [Act.put, List.setIfInBounds_toArray, List.set_cons_zero, List.set_cons_succ]
                  refine wpAnyH_take (i := 9) (oi := { dst := some 68, op := Go.Op.load 3 (Go.Operand.tmp 67), type := 3, pos := "ref.go:153", after := #[{ on := 8, ground := Go.Ground.data }], guard := none }) (v := ?_) rfl (by kernel_rfl) (by kernel_rfl) (by kernel_rfl) (fun _ _ _ h => h) (Or.inl ⟨by rfl, ?_⟩) (by assumption) ?_
                  rotate_left
                  · intro w7 hS7
                    have l0 := (hS7 ⟨g2, o2 + j, none⟩ hg2).trans q0
                    clear hS7
                    go_simp
                    try with_reducible rfl
                  try simp only [Act.put, List.setIfInBounds_toArray, List.set_cons_zero, List.set_cons_succ]
                  refine wpAnyH_take (i := 10) (oi := { dst := some 69, op := Go.Op.binOp Go.BinOp.neq 3 (Go.Operand.tmp 63) (Go.Operand.tmp 68) 3, type := 4, pos := "ref.go:153", after := #[{ on := 4, ground := Go.Ground.data }, { on := 9, ground := Go.Ground.data }], guard := none }) (v := ?_) rfl (by kernel_rfl) (by kernel_rfl) (by kernel_rfl) (fun _ _ _ h => h) (Or.inl ⟨by rfl, ?_⟩) (by assumption) ?_
                  rotate_left
                  · intro w hSw; clear hSw; go_simp; try with_reducible rfl
                  try simp only [Act.put, List.setIfInBounds_toArray, List.set_cons_zero, List.set_cons_succ]
                  refine wpAnyH_done (by kernel_rfl) ?_ _
                  go_wp2_with fail
                  go_roundw
                  case rel =>
                    (repeat apply Exists.intro)
                    refine ⟨?_, rfl⟩
                    exact ⟨j + 1, by omega, by go_num, Lib.hid (ht'.out.2 (by first | rfl | trivial)), hM1.drew, hM2.drew, below_drew1 hb⟩
                  case measure => simp [intOf]; omega
                · have hno := hno'.out hxy
                  have hno2 := Lib.hid hno
                  have e1 : (x != y) = true := by simp [hxy]
                  clear hno hxy
                  go_wp2_with fail
                  refine wp_region_held_drew (S := fun w' => CellsAs wr w') rfl (CellsAs.of (below_drew1 (Below.refl _ wr))) (fun hHeld => ?_)
                  refine wpAnyH_take (i := 0) (oi := { dst := some 59, op := Go.Op.fieldAddr 28 (Go.Operand.tmp 2) 3, type := 0, pos := "ref.go:153", after := #[], guard := none }) (v := ?_) rfl (by kernel_rfl) (by kernel_rfl) (by kernel_rfl) (fun _ _ _ h => h) (Or.inl ⟨by rfl, ?_⟩) (by assumption) ?_
                  rotate_left
                  · intro w hSw; clear hSw; go_simp; try with_reducible rfl
                  try simp only [Act.put, List.setIfInBounds_toArray, List.set_cons_zero, List.set_cons_succ]
                  refine wpAnyH_take (i := 1) (oi := { dst := some 60, op := Go.Op.load 22 (Go.Operand.tmp 59), type := 22, pos := "ref.go:153", after := #[{ on := 0, ground := Go.Ground.data }], guard := none }) (v := ?_) rfl (by kernel_rfl) (by kernel_rfl) (by kernel_rfl) (fun _ _ _ h => h) (Or.inl ⟨by rfl, ?_⟩) (by assumption) ?_
                  rotate_left
                  · intro w7 hS7
                    have k3 := (hS7 ⟨w.heap.size, 3, none⟩ (by show w.heap.size < wr.heap.size; omega)).trans y3
                    clear hS7
                    go_simp
                    try with_reducible rfl
                  try simp only [Act.put, List.setIfInBounds_toArray, List.set_cons_zero, List.set_cons_succ]
                  refine wpAnyH_take (i := 2) (oi := { dst := some 61, op := Go.Op.move (Go.Operand.tmp 5), type := 3, pos := "ref.go:153", after := #[], guard := none }) (v := ?_) rfl (by kernel_rfl) (by kernel_rfl) (by kernel_rfl) (fun _ _ _ h => h) (Or.inl ⟨by rfl, ?_⟩) (by assumption) ?_
                  rotate_left
                  · intro w hSw; clear hSw; go_simp; try with_reducible rfl
                  try simp only [Act.put, List.setIfInBounds_toArray, List.set_cons_zero, List.set_cons_succ]
                  refine wpAnyH_take (i := 3) (oi := { dst := some 62, op := Go.Op.indexAddr 22 (Go.Operand.tmp 60) (Go.Operand.tmp 61), type := 0, pos := "ref.go:153", after := #[{ on := 1, ground := Go.Ground.data }, { on := 2, ground := Go.Ground.data }], guard := none }) (v := ?_) rfl (by kernel_rfl) (by kernel_rfl) (by kernel_rfl) (fun _ _ _ h => h) (Or.inl ⟨by rfl, ?_⟩) (by assumption) ?_
                  rotate_left
                  · intro w hSw; clear hSw; go_simp; try with_reducible rfl
                  try simp only [Act.put, List.setIfInBounds_toArray, List.set_cons_zero, List.set_cons_succ]
                  refine wpAnyH_take (i := 4) (oi := { dst := some 63, op := Go.Op.load 3 (Go.Operand.tmp 62), type := 3, pos := "ref.go:153", after := #[{ on := 3, ground := Go.Ground.data }], guard := none }) (v := ?_) rfl (by kernel_rfl) (by kernel_rfl) (by kernel_rfl) (fun _ _ _ h => h) (Or.inl ⟨by rfl, ?_⟩) (by assumption) ?_
                  rotate_left
                  · intro w7 hS7
                    have l0 := (hS7 ⟨g1, o1 + j, none⟩ hg1).trans p0
                    clear hS7
                    go_simp
                    try with_reducible rfl
                  try simp only [Act.put, List.setIfInBounds_toArray, List.set_cons_zero, List.set_cons_succ]
                  refine wpAnyH_take (i := 5) (oi := { dst := some 64, op := Go.Op.fieldAddr 28 (Go.Operand.tmp 3) 3, type := 0, pos := "ref.go:153", after := #[], guard := none }) (v := ?_) rfl (by kernel_rfl) (by kernel_rfl) (by kernel_rfl) (fun _ _ _ h => h) (Or.inl ⟨by rfl, ?_⟩) (by assumption) ?_
                  rotate_left
                  · intro w hSw; clear hSw; go_simp; try with_reducible rfl
                  try simp only [Act.put, List.setIfInBounds_toArray, List.set_cons_zero, List.set_cons_succ]
                  refine wpAnyH_take (i := 6) (oi := { dst := some 65, op := Go.Op.load 22 (Go.Operand.tmp 64), type := 22, pos := "ref.go:153", after := #[{ on := 5, ground := Go.Ground.data }], guard := none }) (v := ?_) rfl (by kernel_rfl) (by kernel_rfl) (by kernel_rfl) (fun _ _ _ h => h) (Or.inl ⟨by rfl, ?_⟩) (by assumption) ?_
                  rotate_left
                  · intro w7 hS7
                    have k3 := (hS7 ⟨w.heap.size + 1, 3, none⟩ hlz).trans z3
                    clear hS7
                    go_simp
                    try with_reducible rfl
                  try simp only [Act.put, List.setIfInBounds_toArray, List.set_cons_zero, List.set_cons_succ]
                  refine wpAnyH_take (i := 7) (oi := { dst := some 66, op := Go.Op.move (Go.Operand.tmp 5), type := 3, pos := "ref.go:153", after := #[], guard := none }) (v := ?_) rfl (by kernel_rfl) (by kernel_rfl) (by kernel_rfl) (fun _ _ _ h => h) (Or.inl ⟨by rfl, ?_⟩) (by assumption) ?_
                  rotate_left
                  · intro w hSw; clear hSw; go_simp; try with_reducible rfl
                  try simp only [Act.put, List.setIfInBounds_toArray, List.set_cons_zero, List.set_cons_succ]
                  refine wpAnyH_take (i := 8) (oi := { dst := some 67, op := Go.Op.indexAddr 22 (Go.Operand.tmp 65) (Go.Operand.tmp 66), type := 0, pos := "ref.go:153", after := #[{ on := 6, ground := Go.Ground.data }, { on := 7, ground := Go.Ground.data }], guard := none }) (v := ?_) rfl (by kernel_rfl) (by kernel_rfl) (by kernel_rfl) (fun _ _ _ h => h) (Or.inl ⟨by rfl, ?_⟩) (by assumption) ?_
                  rotate_left
                  · intro w hSw; clear hSw; go_simp; try with_reducible rfl
                  try simp only [Act.put, List.setIfInBounds_toArray, List.set_cons_zero, List.set_cons_succ]
                  refine wpAnyH_take (i := 9) (oi := { dst := some 68, op := Go.Op.load 3 (Go.Operand.tmp 67), type := 3, pos := "ref.go:153", after := #[{ on := 8, ground := Go.Ground.data }], guard := none }) (v := ?_) rfl (by kernel_rfl) (by kernel_rfl) (by kernel_rfl) (fun _ _ _ h => h) (Or.inl ⟨by rfl, ?_⟩) (by assumption) ?_
                  rotate_left
                  · intro w7 hS7
                    have l0 := (hS7 ⟨g2, o2 + j, none⟩ hg2).trans q0
                    clear hS7
                    go_simp
                    try with_reducible rfl
                  try simp only [Act.put, List.setIfInBounds_toArray, List.set_cons_zero, List.set_cons_succ]
                  refine wpAnyH_take (i := 10) (oi := { dst := some 69, op := Go.Op.binOp Go.BinOp.neq 3 (Go.Operand.tmp 63) (Go.Operand.tmp 68) 3, type := 4, pos := "ref.go:153", after := #[{ on := 4, ground := Go.Ground.data }, { on := 9, ground := Go.Ground.data }], guard := none }) (v := ?_) rfl (by kernel_rfl) (by kernel_rfl) (by kernel_rfl) (fun _ _ _ h => h) (Or.inl ⟨by rfl, ?_⟩) (by assumption) ?_
                  rotate_left
                  · intro w hSw; clear hSw; go_simp; try with_reducible rfl
                  try simp only [Act.put, List.setIfInBounds_toArray, List.set_cons_zero, List.set_cons_succ]
                  refine wpAnyH_done (by kernel_rfl) ?_ _
                  go_wp2_with fail
                  go_ret
                  exact ⟨false, rfl, by first | (rw [hiff'.out]; simp [hno2.out]; done) | simp [hno2.out], below_drew1 hb⟩
              · obtain rfl : L1 = j := by omega
                have hpe : ps = ps2 := by
                  have h1 := hd.out
                  rwa [show ps.take L1 = ps by rw [← hL1'.out]; exact List.take_length, show ps2.take L1 = ps2 by rw [← hL2'.out]; exact List.take_length] at h1
                have hpe' := Lib.hid hpe
                have hM1' := Lib.hid hM1
                have hM2' := Lib.hid hM2
                have hb' := Lib.hid hb
                have y8 : wr.cell? ⟨w.heap.size, 8, none⟩ = some (.slice A1 N1 c1) := hM1.cell 8
                clear hpe hd z3 hM1 hM2 hb
                go_wp2_with fail
                go_loopw [6] (fun i wr => ∃ (j : Nat), j ≤ N1 ∧ i = .int .i64 j ∧ Hid (ks = ks2 ↔ Tl.dr ks j = Tl.dr ks2 j) ∧ Lies wr w.heap.size 28 [.int .i64 k, .int .i64 n, .string ⟨s.toArray⟩, .slice P1 L1 r1, .int .i64 d.k, .int .i64 d.n, .string ⟨d.s.toArray⟩, .slice I1 J1 i1, .slice A1 N1 c1] ∧ Lies wr (w.heap.size + 1) 28 [.int .i64 k, .int .i64 n, .string ⟨s.toArray⟩, .slice P2 L1 r2, .int .i64 d2.k, .int .i64 d2.n, .string ⟨d2.s.toArray⟩, .slice I2 J2 i2, .slice A2 N1 c2] ∧ Below w.heap.size w wr) (fun i _ => N1 - (intOf i).toNat)
                case atStart => exact ⟨0, Nat.zero_le _, rfl, Lib.hid (by rw [Tl.dr_zero, Tl.dr_zero]), hM1'.out, hM2'.out, hb'.out⟩
                case round =>
                  clear y3 y8 hM1' hM2' hb'
                  obtain ⟨j, hj, rfl, hd, hM1, hM2, hb⟩ := hrel
                  have y8 : wr.cell? ⟨w.heap.size, 8, none⟩ = some (.slice A1 N1 c1) := hM1.cell 8
                  have z8 : wr.cell? ⟨w.heap.size + 1, 8, none⟩ = some (.slice A2 N1 c2) := hM2.cell 8
                  have hlz := hM2.lt
                  by_cases hlt : j < N1
                  · obtain ⟨x, hx⟩ := ks.at_some j (by rw [hN1'.out]; exact hlt)
                    obtain ⟨y, hy⟩ := ks2.at_some j (by rw [hN2'.out]; exact hlt)
                    obtain ⟨g1, o1, X1, x1, Y1, yy1, Z1, zz1, rfl, hg1, p0, p1, p2, p3, p4, p5, p6, p7, p8, hd1⟩ := (hk1.below hb).at_ hx
                    obtain ⟨g2, o2, X2, x2, Y2, yy2, Z2, zz2, rfl, hg2, q0, q1, q2, q3, q4, q5, q6, q7, q8, hd2⟩ := (hk2.below hb).at_ hy
                    have hdr := TM.dr_eq hx hy
                    have hC := Lib.hid (hP'.out j x hx y _ _ _ _ _ _ _ hd1.drew hd2.drew)
                    unfold tmv at hC
                    have hdr' := Lib.hid hdr
                    have hb2 := Lib.hid hb
                    clear hx hy hd1 hd2 hdr
                    go_wp2_with fail
                    refine wp_region_held_drew (S := fun w' => CellsAs wr w') rfl (CellsAs.of (below_drew1 (Below.refl _ wr))) (fun hHeld => ?_)
                    refine wpAnyH_take (i := 0) (oi := { dst := some 77, op := Go.Op.fieldAddr 28 (Go.Operand.tmp 2) 5, type := 0, pos := "ref.go:158", after := #[], guard := none }) (v := ?_) rfl (by kernel_rfl) (by kernel_rfl) (by kernel_rfl) (fun _ _ _ h => h) (Or.inl ⟨by rfl, ?_⟩) (by assumption) ?_
                    rotate_left
                    · intro w hSw; clear hSw; go_simp; try with_reducible rfl
                    try simp only [Act.put, List.setIfInBounds_toArray, List.set_cons_zero, List.set_cons_succ]
                    refine wpAnyH_take (i := 1) (oi := { dst := some 78, op := Go.Op.load 26 (Go.Operand.tmp 77), type := 26, pos := "ref.go:158", after := #[{ on := 0, ground := Go.Ground.data }], guard := none }) (v := ?_) rfl (by kernel_rfl) (by kernel_rfl) (by kernel_rfl) (fun _ _ _ h => h) (Or.inl ⟨by rfl, ?_⟩) (by assumption) ?_
                    rotate_left
                    · intro w7 hS7
                      have k3 := (hS7 ⟨w.heap.size, 8, none⟩ (by show w.heap.size < wr.heap.size; omega)).trans y8
                      clear hS7
                      go_simp
                      try with_reducible rfl
                    try simp only [Act.put, List.setIfInBounds_toArray, List.set_cons_zero, List.set_cons_succ]
                    refine wpAnyH_take (i := 2) (oi := { dst := some 79, op := Go.Op.move (Go.Operand.tmp 6), type := 3, pos := "ref.go:158", after := #[], guard := none }) (v := ?_) rfl (by kernel_rfl) (by kernel_rfl) (by kernel_rfl) (fun _ _ _ h => h) (Or.inl ⟨by rfl, ?_⟩) (by assumption) ?_
                    rotate_left
                    · intro w hSw; clear hSw; go_simp; try with_reducible rfl
                    try simp only [Act.put, List.setIfInBounds_toArray, List.set_cons_zero, List.set_cons_succ]
                    refine wpAnyH_take (i := 3) (oi := { dst := some 80, op := Go.Op.indexAddr 26 (Go.Operand.tmp 78) (Go.Operand.tmp 79), type := 0, pos := "ref.go:158", after := #[{ on := 1, ground := Go.Ground.data }, { on := 2, ground := Go.Ground.data }], guard := none }) (v := ?_) rfl (by kernel_rfl) (by kernel_rfl) (by kernel_rfl) (fun _ _ _ h => h) (Or.inl ⟨by rfl, ?_⟩) (by assumption) ?_
                    rotate_left
                    · intro w hSw; clear hSw; go_simp; try with_reducible rfl
                    try simp only [Act.put, List.setIfInBounds_toArray, List.set_cons_zero, List.set_cons_succ]
                    refine wpAnyH_take (i := 4) (oi := { dst := some 81, op := Go.Op.load 28 (Go.Operand.tmp 80), type := 28, pos := "ref.go:158", after := #[{ on := 3, ground := Go.Ground.data }], guard := none }) (v := ?_) rfl (by kernel_rfl) (by kernel_rfl) (by kernel_rfl) (fun _ _ _ h => h) (Or.inl ⟨by rfl, ?_⟩) (by assumption) ?_
                    rotate_left
                    · intro w7 hS7
                      have l0 := (hS7 ⟨g1, o1 + j * 9, none⟩ hg1).trans p0
                      have l1 := (hS7 ⟨g1, o1 + j * 9 + 1, none⟩ hg1).trans p1
                      have l2 := (hS7 ⟨g1, o1 + j * 9 + 2, none⟩ hg1).trans p2
                      have l3 := (hS7 ⟨g1, o1 + j * 9 + 3, none⟩ hg1).trans p3
                      have l4 := (hS7 ⟨g1, o1 + j * 9 + 4, none⟩ hg1).trans p4
                      have l5 := (hS7 ⟨g1, o1 + j * 9 + 5, none⟩ hg1).trans p5
                      have l6 := (hS7 ⟨g1, o1 + j * 9 + 6, none⟩ hg1).trans p6
                      have l7 := (hS7 ⟨g1, o1 + j * 9 + 7, none⟩ hg1).trans p7
                      have l8 := (hS7 ⟨g1, o1 + j * 9 + 8, none⟩ hg1).trans p8
                      clear hS7
                      go_simp
                      try with_reducible rfl
                    try simp only [Act.put, List.setIfInBounds_toArray, List.set_cons_zero, List.set_cons_succ]
                    refine wpAnyH_take (i := 5) (oi := { dst := some 82, op := Go.Op.fieldAddr 28 (Go.Operand.tmp 3) 5, type := 0, pos := "ref.go:158", after := #[], guard := none }) (v := ?_) rfl (by kernel_rfl) (by kernel_rfl) (by kernel_rfl) (fun _ _ _ h => h) (Or.inl ⟨by rfl, ?_⟩) (by assumption) ?_
                    rotate_left
                    · intro w hSw; clear hSw; go_simp; try with_reducible rfl
                    try simp only [Act.put, List.setIfInBounds_toArray, List.set_cons_zero, List.set_cons_succ]
                    refine wpAnyH_take (i := 6) (oi := { dst := some 83, op := Go.Op.load 26 (Go.Operand.tmp 82), type := 26, pos := "ref.go:158", after := #[{ on := 5, ground := Go.Ground.data }], guard := none }) (v := ?_) rfl (by kernel_rfl) (by kernel_rfl) (by kernel_rfl) (fun _ _ _ h => h) (Or.inl ⟨by rfl, ?_⟩) (by assumption) ?_
                    rotate_left
                    · intro w7 hS7
                      have k3 := (hS7 ⟨w.heap.size + 1, 8, none⟩ hlz).trans z8
                      clear hS7
                      go_simp
                      try with_reducible rfl
                    try simp only [Act.put, List.setIfInBounds_toArray, List.set_cons_zero, List.set_cons_succ]
                    refine wpAnyH_take (i := 7) (oi := { dst := some 84, op := Go.Op.move (Go.Operand.tmp 6), type := 3, pos := "ref.go:158", after := #[], guard := none }) (v := ?_) rfl (by kernel_rfl) (by kernel_rfl) (by kernel_rfl) (fun _ _ _ h => h) (Or.inl ⟨by rfl, ?_⟩) (by assumption) ?_
                    rotate_left
                    · intro w hSw; clear hSw; go_simp; try with_reducible rfl
                    try simp only [Act.put, List.setIfInBounds_toArray, List.set_cons_zero, List.set_cons_succ]
                    refine wpAnyH_take (i := 8) (oi := { dst := some 85, op := Go.Op.indexAddr 26 (Go.Operand.tmp 83) (Go.Operand.tmp 84), type := 0, pos := "ref.go:158", after := #[{ on := 6, ground := Go.Ground.data }, { on := 7, ground := Go.Ground.data }], guard := none }) (v := ?_) rfl (by kernel_rfl) (by kernel_rfl) (by kernel_rfl) (fun _ _ _ h => h) (Or.inl ⟨by rfl, ?_⟩) (by assumption) ?_
                    rotate_left
                    · intro w hSw; clear hSw; go_simp; try with_reducible rfl
                    try simp only [Act.put, List.setIfInBounds_toArray, List.set_cons_zero, List.set_cons_succ]
                    refine wpAnyH_take (i := 9) (oi := { dst := some 86, op := Go.Op.load 28 (Go.Operand.tmp 85), type := 28, pos := "ref.go:158", after := #[{ on := 8, ground := Go.Ground.data }], guard := none }) (v := ?_) rfl (by kernel_rfl) (by kernel_rfl) (by kernel_rfl) (fun _ _ _ h => h) (Or.inl ⟨by rfl, ?_⟩) (by assumption) ?_
                    rotate_left
                    · intro w7 hS7
                      have l0 := (hS7 ⟨g2, o2 + j * 9, none⟩ hg2).trans q0
                      have l1 := (hS7 ⟨g2, o2 + j * 9 + 1, none⟩ hg2).trans q1
                      have l2 := (hS7 ⟨g2, o2 + j * 9 + 2, none⟩ hg2).trans q2
                      have l3 := (hS7 ⟨g2, o2 + j * 9 + 3, none⟩ hg2).trans q3
                      have l4 := (hS7 ⟨g2, o2 + j * 9 + 4, none⟩ hg2).trans q4
                      have l5 := (hS7 ⟨g2, o2 + j * 9 + 5, none⟩ hg2).trans q5
                      have l6 := (hS7 ⟨g2, o2 + j * 9 + 6, none⟩ hg2).trans q6
                      have l7 := (hS7 ⟨g2, o2 + j * 9 + 7, none⟩ hg2).trans q7
                      have l8 := (hS7 ⟨g2, o2 + j * 9 + 8, none⟩ hg2).trans q8
                      clear hS7
                      go_simp
                      try with_reducible rfl
                    try simp only [Act.put, List.setIfInBounds_toArray, List.set_cons_zero, List.set_cons_succ]
                    refine wpAnyH_ready (rs := [10]) (by kernel_rfl) (by simp) ?_
                    refine AllReadyH.cons (o := { dst := some 87, op := Go.Op.call { callee := Go.Callee.value (Go.Operand.func 12), args := #[Go.Operand.tmp 81, Go.Operand.tmp 86], argTypes := #[28, 28] }, type := 4, pos := "ref.go:158", after := #[{ on := 4, ground := Go.Ground.data }, { on := 9, ground := Go.Ground.data }], guard := none }) rfl (fun K hK => ?_) AllReadyH.nil
                    rw [if_pos (by rfl)]
                    go_simp
                    refine hC.out.mono ?_
                    rintro e w5 ⟨r, rfl, hr, hb5⟩
                    have hr' := Lib.hid hr
                    have hM3 := hM1.drew.below hb5 hM1.lt
                    have hM4 := hM2.drew.below hb5 hM2.lt
                    have hb6 : Below w.heap.size w w5 := hb2.out.trans (below_of_drew (Below.mono hb5 hb2.out.size))
                    have kc : CellsAs wr w5 := CellsAs.of (below_of_drew hb5)
                    clear hr hb5 hHeld
                    refine hK.out _ _ kc (fun hHeld => ?_)
                    clear hK K
                    try simp only [Act.put, List.setIfInBounds_toArray, List.set_cons_zero, List.set_cons_succ]
                    refine wpAnyH_take (i := 11) (oi := { dst := some 88, op := Go.Op.unOp Go.UnOp.not 4 (Go.Operand.tmp 87), type := 4, pos := "ref.go:158", after := #[{ on := 10, ground := Go.Ground.data }], guard := none }) (v := ?_) rfl (by kernel_rfl) (by kernel_rfl) (by kernel_rfl) (fun _ _ _ h => h) (Or.inl ⟨by rfl, ?_⟩) (by assumption) ?_
                    rotate_left
                    · intro w hSw; clear hSw; go_simp; try with_reducible rfl
                    try simp only [Act.put, List.setIfInBounds_toArray, List.set_cons_zero, List.set_cons_succ]
                    refine wpAnyH_done (by kernel_rfl) ?_ _
                    cases r
                    · go_wp2_with fail
                      go_ret
                      have hno : ¬ ks = ks2 := by
                        rw [hd.out, hdr'.out, ← hr'.out]; simp
                      exact ⟨false, rfl, by first | (rw [hiff'.out]; simp [hno]; done) | simp [hno], hb6⟩
                    · go_wp2_with fail
                      go_roundw
                      case rel =>
                        have hnx : ks = ks2 ↔ Tl.dr ks (j + 1) = Tl.dr ks2 (j + 1) := by rw [hd.out, hdr'.out, ← hr'.out]; simp
                        exact ⟨j + 1, by omega, by simp, Lib.hid hnx⟩
                      case measure => simp [intOf]; omega
                  · obtain rfl : j = N1 := by omega
                    go_wp2_with fail
                    go_ret
                    have he : ks = ks2 := by rw [hd.out, Tl.dr_end ks j (by rw [hN1'.out]; exact Nat.le_refl _), Tl.dr_end ks2 j (by rw [hN2'.out]; exact Nat.le_refl _)]
                    exact ⟨true, rfl, by first | (rw [hiff'.out]; simp [he, hpe'.out, hdd'.out]; done) | simp [he, hpe'.out, hdd'.out], hb⟩
          · have hno : ¬ ks = ks2 := fun h => hne (hN0'.out h)
            have hno' := Lib.hid hno
            clear hno
            subst hk hn hs hpl
            go_enter Tryz.func12, Tryz.ntmps12
            go_wp2_with fail
            go_ret
            exact ⟨false, rfl, by first | (rw [hiff'.out]; simp [hno'.out]; done) | simp [hno'.out], hba⟩
        · have hno : ¬ ps = ps2 := fun h => hpl (hL0'.out h)
          have hno' := Lib.hid hno
          clear hno
          subst hk hn hs
          go_enter Tryz.func12, Tryz.ntmps12
          go_wp2_with fail
          go_ret
          exact ⟨false, rfl, by first | (rw [hiff'.out]; simp [hno'.out]; done) | simp [hno'.out], hba⟩
      · obtain ⟨e1, e2, e3⟩ := str_ne hs
        have hno' := Lib.hid hs
        clear hs
        subst hk hn
        go_enter Tryz.func12, Tryz.ntmps12
        go_wp2_with fail
        go_ret
        exact ⟨false, rfl, by first | (rw [hiff'.out]; simp [hno'.out]; done) | simp, hba⟩
    · have hno' := Lib.hid hn
      subst hk
      go_enter Tryz.func12, Tryz.ntmps12
      go_wp2_with fail
      go_ret
      exact ⟨false, rfl, by first | (rw [hiff'.out]; simp [hno'.out]; done) | simp, hba⟩
  · have hno' := Lib.hid hk
    skip
    go_enter Tryz.func12, Tryz.ntmps12
    go_wp2_with fail
    go_ret
    exact ⟨false, rfl, by first | (rw [hiff'.out]; simp [hno'.out]; done) | simp, hba⟩
theorem equal_any (x : Tm) : EqOk x := Tl.all_one EqOk eq_step x
end Go.Proofs.YtpiekdcbjkgipaaGreat
