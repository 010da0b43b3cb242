/- The reference's Equal of terms. -/
import Derived.Test.YthbgopmpdkefkaaGreatDoorQ41
import Derived.Test.YthbgopmpdkefkaaGreatDoorQ31
import Derived.Test.YthbgopmpdkefkaaGreatDoorQ35
import Derived.Test.YthbgopmpdkefkaaGreatDoorQ8
import Derived.Test.YthbgopmpdkefkaaGreatDoorQ33
import Derived.Test.YthbgopmpdkefkaaGreatDoorQ10
import Derived.Deep.Cut
import Derived.Deep.CutRange
import Derived.Deep.CutBlock
namespace Go.Proofs.YthbgopmpdkefkaaGreatDoor
open Go.ChangeShapes Go.WideShapes Go.ChangeAt Go.RowKit Go.Deep
open TM (Tl Tm)

def EqOk (x : Tm) : Prop := ∀ (y : Tm) (w : World) (u1 u2 u3 v1 v2 v3 : Value), TmIn w x u1 u2 u3 → TmIn w y v1 v2 v3 → Calls Tryz.prog 18 #[tmv x u1 u2 u3, tmv y v1 v2 v3] w (BoolIff (x = y) w)
set_option maxRecDepth 100000 in
set_option maxHeartbeats 8000000 in
theorem eq_step (k n : Int) (s : List UInt8) (ps : List Int) (d : RM.Dm) (ks : Tl) (hP : ∀ i x, ks.at_ i = some x → EqOk x) : EqOk ⟨k, n, s, ps, d, ks⟩ := by
  intro y w u1 u2 u3 v1 v2 v3 h1 h2
  obtain ⟨k2, n2, s2, ps2, d2, ks2⟩ := y
  have hD := Lib.hid (fun (w' : World) (hb : Below w.heap.size w w') => rsame_any d d2 w' _ _ (h1.d.below hb) (h2.d.below hb))
  have hp1 := h1.p
  have hp2 := h2.p
  have hk1 := h1.k
  have hk2 := h2.k
  obtain ⟨P1, r1, rfl⟩ := h1.p.read
  obtain ⟨P2, r2, rfl⟩ := h2.p.read
  obtain ⟨I1, i1, rfl⟩ := h1.d.read
  obtain ⟨I2, i2, rfl⟩ := h2.d.read
  obtain ⟨A1, c1, rfl⟩ := h1.k.read
  obtain ⟨A2, c2, rfl⟩ := h2.k.read
  unfold tmv
  unfold dtv at hD
  simp only at hD hp1 hp2 hk1 hk2 ⊢
  have hl1 := hp1.len
  have hl2 := hp2.len
  have hl3 := hk1.len
  have hl4 := hk2.len
  have hiff : ((⟨k, n, s, ps, d, ks⟩ : Tm) = ⟨k2, n2, s2, ps2, d2, ks2⟩) ↔ (k = k2 ∧ n = n2 ∧ s = s2 ∧ ps = ps2 ∧ d = d2 ∧ ks = ks2) := by simp only [Tm.mk.injEq]
  have hiff' := Lib.hid hiff
  have hP' := Lib.hid hP
  have hL0 : ps = ps2 → ps.length = ps2.length := fun e => by rw [e]
  have hN0 : ks = ks2 → ks.len = ks2.len := fun e => by rw [e]
  obtain ⟨L1, hL1e⟩ : ∃ x, ps.length = x := ⟨_, rfl⟩
  obtain ⟨L2, hL2e⟩ : ∃ x, ps2.length = x := ⟨_, rfl⟩
  obtain ⟨J1, hJ1⟩ : ∃ x, d.is.len = x := ⟨_, rfl⟩
  obtain ⟨J2, hJ2⟩ : ∃ x, d2.is.len = x := ⟨_, rfl⟩
  obtain ⟨N1, hN1e⟩ : ∃ x, ks.len = x := ⟨_, rfl⟩
  obtain ⟨N2, hN2e⟩ : ∃ x, ks2.len = x := ⟨_, rfl⟩
  rw [hL1e, hL2e] at hL0
  rw [hN1e, hN2e] at hN0
  rw [hJ1, hJ2] at hD
  rw [hL1e] at hp1 hl1
  rw [hL2e] at hp2 hl2
  rw [hN1e] at hk1 hl3
  rw [hN2e] at hk2 hl4
  rw [hL1e, hL2e, hJ1, hJ2, hN1e, hN2e]
  have hL1' := Lib.hid hL1e
  have hL2' := Lib.hid hL2e
  have hN1' := Lib.hid hN1e
  have hN2' := Lib.hid hN2e
  have hL0' := Lib.hid hL0
  have hN0' := Lib.hid hN0
  have hB1 := (Lies.made w 28 #[.int .i64 k, .int .i64 n, .string ⟨s.toArray⟩, .slice P1 L1 r1, .int .i64 d.k, .int .i64 d.n, .string ⟨d.s.toArray⟩, .slice I1 J1 i1, .slice A1 N1 c1]).alloc (.cells #[.int .i64 k2, .int .i64 n2, .string ⟨s2.toArray⟩, .slice P2 L2 r2, .int .i64 d2.k, .int .i64 d2.n, .string ⟨d2.s.toArray⟩, .slice I2 J2 i2, .slice A2 N2 c2] 28)
  have hz1 : (w.alloc (.cells #[.int .i64 k, .int .i64 n, .string ⟨s.toArray⟩, .slice P1 L1 r1, .int .i64 d.k, .int .i64 d.n, .string ⟨d.s.toArray⟩, .slice I1 J1 i1, .slice A1 N1 c1] 28)).heap.size = w.heap.size + 1 := by simp
  have hB2 := Lies.made (w.alloc (.cells #[.int .i64 k, .int .i64 n, .string ⟨s.toArray⟩, .slice P1 L1 r1, .int .i64 d.k, .int .i64 d.n, .string ⟨d.s.toArray⟩, .slice I1 J1 i1, .slice A1 N1 c1] 28)) 28 #[.int .i64 k2, .int .i64 n2, .string ⟨s2.toArray⟩, .slice P2 L2 r2, .int .i64 d2.k, .int .i64 d2.n, .string ⟨d2.s.toArray⟩, .slice I2 J2 i2, .slice A2 N2 c2]
  rw [hz1] at hB2
  have hba : Below w.heap.size w ((w.alloc (.cells #[.int .i64 k, .int .i64 n, .string ⟨s.toArray⟩, .slice P1 L1 r1, .int .i64 d.k, .int .i64 d.n, .string ⟨d.s.toArray⟩, .slice I1 J1 i1, .slice A1 N1 c1] 28)).alloc (.cells #[.int .i64 k2, .int .i64 n2, .string ⟨s2.toArray⟩, .slice P2 L2 r2, .int .i64 d2.k, .int .i64 d2.n, .string ⟨d2.s.toArray⟩, .slice I2 J2 i2, .slice A2 N2 c2] 28)) := ((Below.refl _ w).alloc (Nat.le_refl _) _).alloc (by simp) _
  clear hP hiff hL1e hL2e hJ1 hJ2 hN1e hN2e hL0 hN0 hz1 h1 h2
  by_cases hk : k = k2
  · by_cases hn : n = n2
    · by_cases hs : s = s2
      · by_cases hpl : L1 = L2
        · by_cases hne : N1 = N2
          · subst hk hn hs hpl hne
            go_enter Tryz.func18, Tryz.ntmps18
            go_wp2_with (
              go_at_call 41
              refine (hD.out _ hba).mono ?_
              rintro e w3 ⟨rd, rfl, hrd, hb3⟩
              have hrd' := Lib.hid hrd
              have hM1 := hB1.below hb3 hB1.lt
              have hM2 := hB2.below hb3 hB2.lt
              have hb4 := hba.trans (Below.mono hb3 hba.size)
              clear hrd hb3)
            · go_ret
              refine ⟨false, rfl, ?_, hb4⟩
              have hno : ¬ d = d2 := fun e => by have := hrd'.out.2 e; simp_all
              first
                | (rw [hiff'.out]; simp [hno]; done)
                | simp [hno]
            obtain rfl : rd = true := by simp_all
            have hdd : d = d2 := hrd'.out.1 rfl
            have hdd' := Lib.hid hdd
            clear hdd hrd' hB1 hB2 hba
            go_loopw [5] (fun i wr => ∃ (j : Nat), j ≤ L1 ∧ i = .int .i64 j ∧ Hid (ps.take j = ps2.take j) ∧ Lies wr w.heap.size 28 [.int .i64 k, .int .i64 n, .string ⟨s.toArray⟩, .slice P1 L1 r1, .int .i64 d.k, .int .i64 d.n, .string ⟨d.s.toArray⟩, .slice I1 J1 i1, .slice A1 N1 c1] ∧ Lies wr (w.heap.size + 1) 28 [.int .i64 k, .int .i64 n, .string ⟨s.toArray⟩, .slice P2 L1 r2, .int .i64 d2.k, .int .i64 d2.n, .string ⟨d2.s.toArray⟩, .slice I2 J2 i2, .slice A2 N1 c2] ∧ Below w.heap.size w wr) (fun i _ => L1 - (intOf i).toNat)
            case atStart => exact ⟨0, Nat.zero_le _, rfl, Lib.hid (by simp), hM1, hM2, hb4⟩
            case round =>
              obtain ⟨j, hj, rfl, hd, hM1, hM2, hb⟩ := hrel
              have y3 : wr.cell? ⟨w.heap.size, 3, none⟩ = some (.slice P1 L1 r1) := hM1.cell 3
              have z3 : wr.cell? ⟨w.heap.size + 1, 3, none⟩ = some (.slice P2 L1 r2) := hM2.cell 3
              have hlz := hM2.lt
              by_cases hlt : j < L1
              · have hx : ps[j]? = some (ps[j]'(by rw [hL1'.out]; exact hlt)) := List.getElem?_eq_getElem _
                obtain ⟨x, hxe⟩ : ∃ x, ps[j]'(by rw [hL1'.out]; exact hlt) = x := ⟨_, rfl⟩
                have hy : ps2[j]? = some (ps2[j]'(by rw [hL2'.out]; exact hlt)) := List.getElem?_eq_getElem _
                obtain ⟨y, hye⟩ : ∃ y, ps2[j]'(by rw [hL2'.out]; exact hlt) = y := ⟨_, rfl⟩
                rw [hxe] at hx
                rw [hye] at hy
                obtain ⟨g1, o1, rfl, hg1, p0⟩ := (hp1.below hb).cell hx
                obtain ⟨g2, o2, rfl, hg2, q0⟩ := (hp2.below hb).cell hy
                have ht : ps.take (j + 1) = ps2.take (j + 1) ↔ x = y := by
                  rw [List.take_add_one, List.take_add_one, hx, hy, hd.out]
                  simp
                have hno : ¬ x = y → ¬ ps = ps2 := fun h e => by
                  rw [e, hy] at hx
                  exact h (by injection hx with hx; exact hx.symm)
                have ht' := Lib.hid ht
                have hno' := Lib.hid hno
                clear hx hy hxe hye ht hno
                by_cases hxy : x = y
                · subst hxy
                  go_wp2_with fail
                  refine wp_region_held_drew (S := fun w' => CellsAs wr w') rfl (CellsAs.of (below_drew1 (Below.refl _ wr))) (fun hHeld => ?_)
                  refine wpAnyH_take (i := 0) (oi := { dst := some 59, op := Go.Op.fieldAddr 28 (Go.Operand.tmp 2) 3, type := 0, pos := "ref.go:153", after := #[], guard := none }) (v := ?_) rfl (by kernel_rfl) (by kernel_rfl) (by kernel_rfl) (fun _ _ _ h => h) (Or.inl ⟨by rfl, ?_⟩) (by assumption) ?_
                  rotate_left
                  · intro w hSw; clear hSw; go_simp; try with_reducible rfl
                  try simp only [Act.put, List.setIfInBounds_toArray, List.set_cons_zero, List.set_cons_succ]
                  refine wpAnyH_take (i := 1) (oi := { dst := some 60, op := Go.Op.load 22 (Go.Operand.tmp 59), type := 22, pos := "ref.go:153", after := #[{ on := 0, ground := Go.Ground.data }], guard := none }) (v := ?_) rfl (by kernel_rfl) (by kernel_rfl) (by kernel_rfl) (fun _ _ _ h => h) (Or.inl ⟨by rfl, ?_⟩) (by assumption) ?_
                  rotate_left
                  · intro w7 hS7
                    have k3 := (hS7 ⟨w.heap.size, 3, none⟩ (by show w.heap.size < wr.heap.size; omega)).trans y3
                    clear hS7
                    go_simp
                    try with_reducible rfl
                  try simp only [Act.put, List.setIfInBounds_toArray, List.set_cons_zero, List.set_cons_succ]
                  refine wpAnyH_take (i := 2) (oi := { dst := some 61, op := Go.Op.move (Go.Operand.tmp 5), type := 3, pos := "ref.go:153", after := #[], guard := none }) (v := ?_) rfl (by kernel_rfl) (by kernel_rfl) (by kernel_rfl) (fun _ _ _ h => h) (Or.inl ⟨by rfl, ?_⟩) (by assumption) ?_
                  rotate_left
                  · intro w hSw; clear hSw; go_simp; try with_reducible rfl
                  try simp only [Act.put, List.setIfInBounds_toArray, List.set_cons_zero, List.set_cons_succ]
                  refine wpAnyH_take (i := 3) (oi := { dst := some 62, op := Go.Op.indexAddr 22 (Go.Operand.tmp 60) (Go.Operand.tmp 61), type := 0, pos := "ref.go:153", after := #[{ on := 1, ground := Go.Ground.data }, { on := 2, ground := Go.Ground.data }], guard := none }) (v := ?_) rfl (by kernel_rfl) (by kernel_rfl) (by kernel_rfl) (fun _ _ _ h => h) (Or.inl ⟨by rfl, ?_⟩) (by assumption) ?_
                  rotate_left
                  · intro w hSw; clear hSw; go_simp; try with_reducible rfl
                  try simp only [Act.put, List.setIfInBounds_toArray, List.set_cons_zero, List.set_cons_succ]
                  refine wpAnyH_take (i := 4) (oi := { dst := some 63, op := Go.Op.load 3 (Go.Operand.tmp 62), type := 3, pos := "ref.go:153", after := #[{ on := 3, ground := Go.Ground.data }], guard := none }) (v := ?_) rfl (by kernel_rfl) (by kernel_rfl) (by kernel_rfl) (fun _ _ _ h => h) (Or.inl ⟨by rfl, ?_⟩) (by assumption) ?_
                  rotate_left
                  · intro w7 hS7
                    have l0 := (hS7 ⟨g1, o1 + j, none⟩ hg1).trans p0
                    clear hS7
                    go_simp
                    try with_reducible rfl
                  try simp only [Act.put, List.setIfInBounds_toArray, List.set_cons_zero, List.set_cons_succ]
                  refine wpAnyH_take (i := 5) (oi := { dst := some 64, op := Go.Op.fieldAddr 28 (Go.Operand.tmp 3) 3, type := 0, pos := "ref.go:153", after := #[], guard := none }) (v := ?_) rfl (by kernel_rfl) (by kernel_rfl) (by kernel_rfl) (fun _ _ _ h => h) (Or.inl ⟨by rfl, ?_⟩) (by assumption) ?_
                  rotate_left
                  · intro w hSw; clear hSw; go_simp; try with_reducible rfl
                  try simp only [Act.put, List.setIfInBounds_toArray, List.set_cons_zero, List.set_cons_succ]
                  refine wpAnyH_take (i := 6) (oi := { dst := some 65, op := Go.Op.load 22 (Go.Operand.tmp 64), type := 22, pos := "ref.go:153", after := #[{ on := 5, ground := Go.Ground.data }], guard := none }) (v := ?_) rfl (by kernel_rfl) (by kernel_rfl) (by kernel_rfl) (fun _ _ _ h => h) (Or.inl ⟨by rfl, ?_⟩) (by assumption) ?_
                  rotate_left
                  · intro w7 hS7
                    have k3 := (hS7 ⟨w.heap.size + 1, 3, none⟩ hlz).trans z3
                    clear hS7
                    go_simp
                    try with_reducible rfl
                  try simp only [Act.put, List.setIfInBounds_toArray, List.set_cons_zero, List.set_cons_succ]
                  refine wpAnyH_take (i := 7) (oi := { dst := some 66, op := Go.Op.move (Go.Operand.tmp 5), type := 3, pos := "ref.go:153", after := #[], guard := none }) (v := ?_) rfl (by kernel_rfl) (by kernel_rfl) (by kernel_rfl) (fun _ _ _ h => h) (Or.inl ⟨by rfl, ?_⟩) (by assumption) ?_
                  rotate_left
                  · intro w hSw; clear hSw; go_simp; try with_reducible rfl
                  try simp only [Act.put, List.setIfInBounds_toArray, List.set_cons_zero, List.set_cons_succ]
                  refine wpAnyH_take (i := 8) (oi := { dst := some 67, op := Go.Op.indexAddr 22 (Go.Operand.tmp 65) (Go.Operand.tmp 66), type := 0, pos := "ref.go:153", after := #[{ on := 6, ground := Go.Ground.data }, { on := 7, ground := Go.Ground.data }], guard := none }) (v := ?_) rfl (by kernel_rfl) (by kernel_rfl) (by kernel_rfl) (fun _ _ _ h => h) (Or.inl ⟨by rfl, ?_⟩) (by assumption) ?_
                  rotate_left
                  · intro w hSw; clear hSw; go_simp; try with_reducible rfl
                  try simp only [Act.put, List.setIfInBounds_toArray, List.set_cons_zero, List.set_cons_succ]
                  refine wpAnyH_take (i := 9) (oi := { dst := some 68, op := Go.Op.load 3 (Go.Operand.tmp 67), type := 3, pos := "ref.go:153", after := #[{ on := 8, ground := Go.Ground.data }], guard := none }) (v := ?_) rfl (by kernel_rfl) (by kernel_rfl) (by kernel_rfl) (fun _ _ _ h => h) (Or.inl ⟨by rfl, ?_⟩) (by assumption) ?_
                  rotate_left
                  · intro w7 hS7
                    have l0 := (hS7 ⟨g2, o2 + j, none⟩ hg2).trans q0
                    clear hS7
                    go_simp
                    try with_reducible rfl
                  try simp only [Act.put, List.setIfInBounds_toArray, List.set_cons_zero, List.set_cons_succ]
                  refine wpAnyH_take (i := 10) (oi := { dst := some 69, op := Go.Op.binOp Go.BinOp.neq 3 (Go.Operand.tmp 63) (Go.Operand.tmp 68) 3, type := 4, pos := "ref.go:153", after := #[{ on := 4, ground := Go.Ground.data }, { on := 9, ground := Go.Ground.data }], guard := none }) (v := ?_) rfl (by kernel_rfl) (by kernel_rfl) (by kernel_rfl) (fun _ _ _ h => h) (Or.inl ⟨by rfl, ?_⟩) (by assumption) ?_
                  rotate_left
                  · intro w hSw; clear hSw; go_simp; try with_reducible rfl
                  try simp only [Act.put, List.setIfInBounds_toArray, List.set_cons_zero, List.set_cons_succ]
                  refine wpAnyH_done (by kernel_rfl) ?_ _
                  go_wp2_with fail
                  go_roundw
                  case rel =>
                    (repeat apply Exists.intro)
                    refine ⟨?_, rfl⟩
                    exact ⟨j + 1, by omega, by go_num, Lib.hid (ht'.out.2 (by first | rfl | trivial)), hM1.drew, hM2.drew, below_drew1 hb⟩
                  case measure => simp [intOf]; omega
                · have hno := hno'.out hxy
                  have hno2 := Lib.hid hno
                  have e1 : (x != y) = true := by simp [hxy]
                  clear hno hxy
                  go_wp2_with fail
                  refine wp_region_held_drew (S := fun w' => CellsAs wr w') rfl (CellsAs.of (below_drew1 (Below.refl _ wr))) (fun hHeld => ?_)
                  refine wpAnyH_take (i := 0) (oi := { dst := some 59, op := Go.Op.fieldAddr 28 (Go.Operand.tmp 2) 3, type := 0, pos := "ref.go:153", after := #[], guard := none }) (v := ?_) rfl (by kernel_rfl) (by kernel_rfl) (by kernel_rfl) (fun _ _ _ h => h) (Or.inl ⟨by rfl, ?_⟩) (by assumption) ?_
                  rotate_left
                  · intro w hSw; clear hSw; go_simp; try with_reducible rfl
                  try simp only [Act.put, List.setIfInBounds_toArray, List.set_cons_zero, List.set_cons_succ]
                  refine wpAnyH_take (i := 1) (oi := { dst := some 60, op := Go.Op.load 22 (Go.Operand.tmp 59), type := 22, pos := "ref.go:153", after := #[{ on := 0, ground := Go.Ground.data }], guard := none }) (v := ?_) rfl (by kernel_rfl) (by kernel_rfl) (by kernel_rfl) (fun _ _ _ h => h) (Or.inl ⟨by rfl, ?_⟩) (by assumption) ?_
                  rotate_left
                  · intro w7 hS7
                    have k3 := (hS7 ⟨w.heap.size, 3, none⟩ (by show w.heap.size < wr.heap.size; omega)).trans y3
                    clear hS7
                    go_simp
                    try with_reducible rfl
                  try simp only [Act.put, List.setIfInBounds_toArray, List.set_cons_zero, List.set_cons_succ]
                  refine wpAnyH_take (i := 2) (oi := { dst := some 61, op := Go.Op.move (Go.Operand.tmp 5), type := 3, pos := "ref.go:153", after := #[], guard := none }) (v := ?_) rfl (by kernel_rfl) (by kernel_rfl) (by kernel_rfl) (fun _ _ _ h => h) (Or.inl ⟨by rfl, ?_⟩) (by assumption) ?_
                  rotate_left
                  · intro w hSw; clear hSw; go_simp; try with_reducible rfl
                  try simp only [Act.put, List.setIfInBounds_toArray, List.set_cons_zero, List.set_cons_succ]
                  refine wpAnyH_take (i := 3) (oi := { dst := some 62, op := Go.Op.indexAddr 22 (Go.Operand.tmp 60) (Go.Operand.tmp 61), type := 0, pos := "ref.go:153", after := #[{ on := 1, ground := Go.Ground.data }, { on := 2, ground := Go.Ground.data }], guard := none }) (v := ?_) rfl (by kernel_rfl) (by kernel_rfl) (by kernel_rfl) (fun _ _ _ h => h) (Or.inl ⟨by rfl, ?_⟩) (by assumption) ?_
                  rotate_left
                  · intro w hSw; clear hSw; go_simp; try with_reducible rfl
                  try simp only [Act.put, List.setIfInBounds_toArray, List.set_cons_zero, List.set_cons_succ]
                  refine wpAnyH_take (i := 4) (oi := { dst := some 63, op := Go.Op.load 3 (Go.Operand.tmp 62), type := 3, pos := "ref.go:153", after := #[{ on := 3, ground := Go.Ground.data }], guard := none }) (v := ?_) rfl (by kernel_rfl) (by kernel_rfl) (by kernel_rfl) (fun _ _ _ h => h) (Or.inl ⟨by rfl, ?_⟩) (by assumption) ?_
                  rotate_left
                  · intro w7 hS7
                    have l0 := (hS7 ⟨g1, o1 + j, none⟩ hg1).trans p0
                    clear hS7
                    go_simp
                    try with_reducible rfl
                  try simp only [Act.put, List.setIfInBounds_toArray, List.set_cons_zero, List.set_cons_succ]
                  refine wpAnyH_take (i := 5) (oi := { dst := some 64, op := Go.Op.fieldAddr 28 (Go.Operand.tmp 3) 3, type := 0, pos := "ref.go:153", after := #[], guard := none }) (v := ?_) rfl (by kernel_rfl) (by kernel_rfl) (by kernel_rfl) (fun _ _ _ h => h) (Or.inl ⟨by rfl, ?_⟩) (by assumption) ?_
                  rotate_left
                  · intro w hSw; clear hSw; go_simp; try with_reducible rfl
                  try simp only [Act.put, List.setIfInBounds_toArray, List.set_cons_zero, List.set_cons_succ]
                  refine wpAnyH_take (i := 6) (oi := { dst := some 65, op := Go.Op.load 22 (Go.Operand.tmp 64), type := 22, pos := "ref.go:153", after := #[{ on := 5, ground := Go.Ground.data }], guard := none }) (v := ?_) rfl (by kernel_rfl) (by kernel_rfl) (by kernel_rfl) (fun _ _ _ h => h) (Or.inl ⟨by rfl, ?_⟩) (by assumption) ?_
                  rotate_left
                  · intro w7 hS7
                    have k3 := (hS7 ⟨w.heap.size + 1, 3, none⟩ hlz).trans z3
                    clear hS7
                    go_simp
                    try with_reducible rfl
                  try simp only [Act.put, List.setIfInBounds_toArray, List.set_cons_zero, List.set_cons_succ]
                  refine wpAnyH_take (i := 7) (oi := { dst := some 66, op := Go.Op.move (Go.Operand.tmp 5), type := 3, pos := "ref.go:153", after := #[], guard := none }) (v := ?_) rfl (by kernel_rfl) (by kernel_rfl) (by kernel_rfl) (fun _ _ _ h => h) (Or.inl ⟨by rfl, ?_⟩) (by assumption) ?_
                  rotate_left
                  · intro w hSw; clear hSw; go_simp; try with_reducible rfl
                  try simp only [Act.put, List.setIfInBounds_toArray, List.set_cons_zero, List.set_cons_succ]
                  refine wpAnyH_take (i := 8) (oi := { dst := some 67, op := Go.Op.indexAddr 22 (Go.Operand.tmp 65) (Go.Operand.tmp 66), type := 0, pos := "ref.go:153", after := #[{ on := 6, ground := Go.Ground.data }, { on := 7, ground := Go.Ground.data }], guard := none }) (v := ?_) rfl (by kernel_rfl) (by kernel_rfl) (by kernel_rfl) (fun _ _ _ h => h) (Or.inl ⟨by rfl, ?_⟩) (by assumption) ?_
                  rotate_left
                  · intro w hSw; clear hSw; go_simp; try with_reducible rfl
                  try simp only [Act.put, List.setIfInBounds_toArray, List.set_cons_zero, List.set_cons_succ]
                  refine wpAnyH_take (i := 9) (oi := { dst := some 68, op := Go.Op.load 3 (Go.Operand.tmp 67), type := 3, pos := "ref.go:153", after := #[{ on := 8, ground := Go.Ground.data }], guard := none }) (v := ?_) rfl (by kernel_rfl) (by kernel_rfl) (by kernel_rfl) (fun _ _ _ h => h) (Or.inl ⟨by rfl, ?_⟩) (by assumption) ?_
                  rotate_left
                  · intro w7 hS7
                    have l0 := (hS7 ⟨g2, o2 + j, none⟩ hg2).trans q0
                    clear hS7
                    go_simp
                    try with_reducible rfl
                  try simp only [Act.put, List.setIfInBounds_toArray, List.set_cons_zero, List.set_cons_succ]
                  refine wpAnyH_take (i := 10) (oi := { dst := some 69, op := Go.Op.binOp Go.BinOp.neq 3 (Go.Operand.tmp 63) (Go.Operand.tmp 68) 3, type := 4, pos := "ref.go:153", after := #[{ on := 4, ground := Go.Ground.data }, { on := 9, ground := Go.Ground.data }], guard := none }) (v := ?_) rfl (by kernel_rfl) (by kernel_rfl) (by kernel_rfl) (fun _ _ _ h => h) (Or.inl ⟨by rfl, ?_⟩) (by assumption) ?_
                  rotate_left
                  · intro w hSw; clear hSw; go_simp; try with_reducible rfl
                  try simp only [Act.put, List.setIfInBounds_toArray, List.set_cons_zero, List.set_cons_succ]
                  refine wpAnyH_done (by kernel_rfl) ?_ _
                  go_wp2_with fail
                  go_ret
                  exact ⟨false, rfl, by first | (rw [hiff'.out]; simp [hno2.out]; done) | simp [hno2.out], below_drew1 hb⟩
              · obtain rfl : L1 = j := by omega
                have hpe : ps = ps2 := by
                  have h1 := hd.out
                  rwa [show ps.take L1 = ps by rw [← hL1'.out]; exact List.take_length, show ps2.take L1 = ps2 by rw [← hL2'.out]; exact List.take_length] at h1
                have hpe' := Lib.hid hpe
                have hM1' := Lib.hid hM1
                have hM2' := Lib.hid hM2
                have hb' := Lib.hid hb
                have y8 : wr.cell? ⟨w.heap.size, 8, none⟩ = some (.slice A1 N1 c1) := hM1.cell 8
                clear hpe hd z3 hM1 hM2 hb
                go_wp2_with fail
                go_loopw [6] (fun i wr => ∃ (j : Nat), j ≤ N1 ∧ i = .int .i64 j ∧ Hid (ks = ks2 ↔ Tl.dr ks j = Tl.dr ks2 j) ∧ Lies wr w.heap.size 28 [.int .i64 k, .int .i64 n, .string ⟨s.toArray⟩, .slice P1 L1 r1, .int .i64 d.k, .int .i64 d.n, .string ⟨d.s.toArray⟩, .slice I1 J1 i1, .slice A1 N1 c1] ∧ Lies wr (w.heap.size + 1) 28 [.int .i64 k, .int .i64 n, .string ⟨s.toArray⟩, .slice P2 L1 r2, .int .i64 d2.k, .int .i64 d2.n, .string ⟨d2.s.toArray⟩, .slice I2 J2 i2, .slice A2 N1 c2] ∧ Below w.heap.size w wr) (fun i _ => N1 - (intOf i).toNat)
                case atStart => exact ⟨0, Nat.zero_le _, rfl, Lib.hid (by rw [Tl.dr_zero, Tl.dr_zero]), hM1'.out, hM2'.out, hb'.out⟩
                case round =>
                  clear y3 y8 hM1' hM2' hb'
                  obtain ⟨j, hj, rfl, hd, hM1, hM2, hb⟩ := hrel
                  have y8 : wr.cell? ⟨w.heap.size, 8, none⟩ = some (.slice A1 N1 c1) := hM1.cell 8
                  have z8 : wr.cell? ⟨w.heap.size + 1, 8, none⟩ = some (.slice A2 N1 c2) := hM2.cell 8
                  have hlz := hM2.lt
                  by_cases hlt : j < N1
                  · obtain ⟨x, hx⟩ := ks.at_some j (by rw [hN1'.out]; exact hlt)
                    obtain ⟨y, hy⟩ := ks2.at_some j (by rw [hN2'.out]; exact hlt)
                    obtain ⟨g1, o1, X1, x1, Y1, yy1, Z1, zz1, rfl, hg1, p0, p1, p2, p3, p4, p5, p6, p7, p8, hd1⟩ := (hk1.below hb).at_ hx
                    obtain ⟨g2, o2, X2, x2, Y2, yy2, Z2, zz2, rfl, hg2, q0, q1, q2, q3, q4, q5, q6, q7, q8, hd2⟩ := (hk2.below hb).at_ hy
                    have hdr := TM.dr_eq hx hy
                    have hC := Lib.hid (hP'.out j x hx y _ _ _ _ _ _ _ hd1.drew hd2.drew)
                    unfold tmv at hC
                    have hdr' := Lib.hid hdr
                    have hb2 := Lib.hid hb
                    clear hx hy hd1 hd2 hdr
                    go_wp2_with fail
                    refine wp_region_held_drew (S := fun w' => CellsAs wr w') rfl (CellsAs.of (below_drew1 (Below.refl _ wr))) (fun hHeld => ?_)
                    refine wpAnyH_take (i := 0) (oi := { dst := some 77, op := Go.Op.fieldAddr 28 (Go.Operand.tmp 2) 5, type := 0, pos := "ref.go:158", after := #[], guard := none }) (v := ?_) rfl (by kernel_rfl) (by kernel_rfl) (by kernel_rfl) (fun _ _ _ h => h) (Or.inl ⟨by rfl, ?_⟩) (by assumption) ?_
                    rotate_left
                    · intro w hSw; clear hSw; go_simp; try with_reducible rfl
                    try simp only [Act.put, List.setIfInBounds_toArray, List.set_cons_zero, List.set_cons_succ]
                    refine wpAnyH_take (i := 1) (oi := { dst := some 78, op := Go.Op.load 26 (Go.Operand.tmp 77), type := 26, pos := "ref.go:158", after := #[{ on := 0, ground := Go.Ground.data }], guard := none }) (v := ?_) rfl (by kernel_rfl) (by kernel_rfl) (by kernel_rfl) (fun _ _ _ h => h) (Or.inl ⟨by rfl, ?_⟩) (by assumption) ?_
                    rotate_left
                    · intro w7 hS7
                      have k3 := (hS7 ⟨w.heap.size, 8, none⟩ (by show w.heap.size < wr.heap.size; omega)).trans y8
                      clear hS7
                      go_simp
                      try with_reducible rfl
                    try simp only [Act.put, List.setIfInBounds_toArray, List.set_cons_zero, List.set_cons_succ]
                    refine wpAnyH_take (i := 2) (oi := { dst := some 79, op := Go.Op.move (Go.Operand.tmp 6), type := 3, pos := "ref.go:158", after := #[], guard := none }) (v := ?_) rfl (by kernel_rfl) (by kernel_rfl) (by kernel_rfl) (fun _ _ _ h => h) (Or.inl ⟨by rfl, ?_⟩) (by assumption) ?_
                    rotate_left
                    · intro w hSw; clear hSw; go_simp; try with_reducible rfl
                    try simp only [Act.put, List.setIfInBounds_toArray, List.set_cons_zero, List.set_cons_succ]
                    refine wpAnyH_take (i := 3) (oi := { dst := some 80, op := Go.Op.indexAddr 26 (Go.Operand.tmp 78) (Go.Operand.tmp 79), type := 0, pos := "ref.go:158", after := #[{ on := 1, ground := Go.Ground.data }, { on := 2, ground := Go.Ground.data }], guard := none }) (v := ?_) rfl (by kernel_rfl) (by kernel_rfl) (by kernel_rfl) (fun _ _ _ h => h) (Or.inl ⟨by rfl, ?_⟩) (by assumption) ?_
                    rotate_left
                    · intro w hSw; clear hSw; go_simp; try with_reducible rfl
                    try simp only [Act.put, List.setIfInBounds_toArray, List.set_cons_zero, List.set_cons_succ]
                    refine wpAnyH_take (i := 4) (oi := { dst := some 81, op := Go.Op.load 28 (Go.Operand.tmp 80), type := 28, pos := "ref.go:158", after := #[{ on := 3, ground := Go.Ground.data }], guard := none }) (v := ?_) rfl (by kernel_rfl) (by kernel_rfl) (by kernel_rfl) (fun _ _ _ h => h) (Or.inl ⟨by rfl, ?_⟩) (by assumption) ?_
                    rotate_left
                    · intro w7 hS7
                      have l0 := (hS7 ⟨g1, o1 + j * 9, none⟩ hg1).trans p0
                      have l1 := (hS7 ⟨g1, o1 + j * 9 + 1, none⟩ hg1).trans p1
                      have l2 := (hS7 ⟨g1, o1 + j * 9 + 2, none⟩ hg1).trans p2
                      have l3 := (hS7 ⟨g1, o1 + j * 9 + 3, none⟩ hg1).trans p3
                      have l4 := (hS7 ⟨g1, o1 + j * 9 + 4, none⟩ hg1).trans p4
                      have l5 := (hS7 ⟨g1, o1 + j * 9 + 5, none⟩ hg1).trans p5
                      have l6 := (hS7 ⟨g1, o1 + j * 9 + 6, none⟩ hg1).trans p6
                      have l7 := (hS7 ⟨g1, o1 + j * 9 + 7, none⟩ hg1).trans p7
                      have l8 := (hS7 ⟨g1, o1 + j * 9 + 8, none⟩ hg1).trans p8
                      clear hS7
                      go_simp
                      try with_reducible rfl
                    try simp only [Act.put, List.setIfInBounds_toArray, List.set_cons_zero, List.set_cons_succ]
                    refine wpAnyH_take (i := 5) (oi := { dst := some 82, op := Go.Op.fieldAddr 28 (Go.Operand.tmp 3) 5, type := 0, pos := "ref.go:158", after := #[], guard := none }) (v := ?_) rfl (by kernel_rfl) (by kernel_rfl) (by kernel_rfl) (fun _ _ _ h => h) (Or.inl ⟨by rfl, ?_⟩) (by assumption) ?_
                    rotate_left
                    · intro w hSw; clear hSw; go_simp; try with_reducible rfl
                    try simp only [Act.put, List.setIfInBounds_toArray, List.set_cons_zero, List.set_cons_succ]
                    refine wpAnyH_take (i := 6) (oi := { dst := some 83, op := Go.Op.load 26 (Go.Operand.tmp 82), type := 26, pos := "ref.go:158", after := #[{ on := 5, ground := Go.Ground.data }], guard := none }) (v := ?_) rfl (by kernel_rfl) (by kernel_rfl) (by kernel_rfl) (fun _ _ _ h => h) (Or.inl ⟨by rfl, ?_⟩) (by assumption) ?_
                    rotate_left
                    · intro w7 hS7
                      have k3 := (hS7 ⟨w.heap.size + 1, 8, none⟩ hlz).trans z8
                      clear hS7
                      go_simp
                      try with_reducible rfl
                    try simp only [Act.put, List.setIfInBounds_toArray, List.set_cons_zero, List.set_cons_succ]
                    refine wpAnyH_take (i := 7) (oi := { dst := some 84, op := Go.Op.move (Go.Operand.tmp 6), type := 3, pos := "ref.go:158", after := #[], guard := none }) (v := ?_) rfl (by kernel_rfl) (by kernel_rfl) (by kernel_rfl) (fun _ _ _ h => h) (Or.inl ⟨by rfl, ?_⟩) (by assumption) ?_
                    rotate_left
                    · intro w hSw; clear hSw; go_simp; try with_reducible rfl
                    try simp only [Act.put, List.setIfInBounds_toArray, List.set_cons_zero, List.set_cons_succ]
                    refine wpAnyH_take (i := 8) (oi := { dst := some 85, op := Go.Op.indexAddr 26 (Go.Operand.tmp 83) (Go.Operand.tmp 84), type := 0, pos := "ref.go:158", after := #[{ on := 6, ground := Go.Ground.data }, { on := 7, ground := Go.Ground.data }], guard := none }) (v := ?_) rfl (by kernel_rfl) (by kernel_rfl) (by kernel_rfl) (fun _ _ _ h => h) (Or.inl ⟨by rfl, ?_⟩) (by assumption) ?_
                    rotate_left
                    · intro w hSw; clear hSw; go_simp; try with_reducible rfl
                    try simp only [Act.put, List.setIfInBounds_toArray, List.set_cons_zero, List.set_cons_succ]
                    refine wpAnyH_take (i := 9) (oi := { dst := some 86, op := Go.Op.load 28 (Go.Operand.tmp 85), type := 28, pos := "ref.go:158", after := #[{ on := 8, ground := Go.Ground.data }], guard := none }) (v := ?_) rfl (by kernel_rfl) (by kernel_rfl) (by kernel_rfl) (fun _ _ _ h => h) (Or.inl ⟨by rfl, ?_⟩) (by assumption) ?_
                    rotate_left
                    · intro w7 hS7
                      have l0 := (hS7 ⟨g2, o2 + j * 9, none⟩ hg2).trans q0
                      have l1 := (hS7 ⟨g2, o2 + j * 9 + 1, none⟩ hg2).trans q1
                      have l2 := (hS7 ⟨g2, o2 + j * 9 + 2, none⟩ hg2).trans q2
                      have l3 := (hS7 ⟨g2, o2 + j * 9 + 3, none⟩ hg2).trans q3
                      have l4 := (hS7 ⟨g2, o2 + j * 9 + 4, none⟩ hg2).trans q4
                      have l5 := (hS7 ⟨g2, o2 + j * 9 + 5, none⟩ hg2).trans q5
                      have l6 := (hS7 ⟨g2, o2 + j * 9 + 6, none⟩ hg2).trans q6
                      have l7 := (hS7 ⟨g2, o2 + j * 9 + 7, none⟩ hg2).trans q7
                      have l8 := (hS7 ⟨g2, o2 + j * 9 + 8, none⟩ hg2).trans q8
                      clear hS7
                      go_simp
                      try with_reducible rfl
                    try simp only [Act.put, List.setIfInBounds_toArray, List.set_cons_zero, List.set_cons_succ]
                    refine wpAnyH_ready (rs := [10]) (by kernel_rfl) (by simp) ?_
                    refine AllReadyH.cons (o := { dst := some 87, op := Go.Op.call { callee := Go.Callee.value (Go.Operand.func 18), args := #[Go.Operand.tmp 81, Go.Operand.tmp 86], argTypes := #[28, 28] }, type := 4, pos := "ref.go:158", after := #[{ on := 4, ground := Go.Ground.data }, { on := 9, ground := Go.Ground.data }], guard := none }) rfl (fun K hK => ?_) AllReadyH.nil
                    rw [if_pos (by rfl)]
                    go_simp
                    refine hC.out.mono ?_
                    rintro e w5 ⟨r, rfl, hr, hb5⟩
                    have hr' := Lib.hid hr
                    have hM3 := hM1.drew.below hb5 hM1.lt
                    have hM4 := hM2.drew.below hb5 hM2.lt
                    have hb6 : Below w.heap.size w w5 := hb2.out.trans (below_of_drew (Below.mono hb5 hb2.out.size))
                    have kc : CellsAs wr w5 := CellsAs.of (below_of_drew hb5)
                    clear hr hb5 hHeld
                    refine hK.out _ _ kc (fun hHeld => ?_)
                    clear hK K
                    try simp only [Act.put, List.setIfInBounds_toArray, List.set_cons_zero, List.set_cons_succ]
                    refine wpAnyH_take (i := 11) (oi := { dst := some 88, op := Go.Op.unOp Go.UnOp.not 4 (Go.Operand.tmp 87), type := 4, pos := "ref.go:158", after := #[{ on := 10, ground := Go.Ground.data }], guard := none }) (v := ?_) rfl (by kernel_rfl) (by kernel_rfl) (by kernel_rfl) (fun _ _ _ h => h) (Or.inl ⟨by rfl, ?_⟩) (by assumption) ?_
                    rotate_left
                    · intro w hSw; clear hSw; go_simp; try with_reducible rfl
                    try simp only [Act.put, List.setIfInBounds_toArray, List.set_cons_zero, List.set_cons_succ]
                    refine wpAnyH_done (by kernel_rfl) ?_ _
                    cases r
                    · go_wp2_with fail
                      go_ret
                      have hno : ¬ ks = ks2 := by
                        rw [hd.out, hdr'.out, ← hr'.out]; simp
                      exact ⟨false, rfl, by first | (rw [hiff'.out]; simp [hno]; done) | simp [hno], hb6⟩
                    · go_wp2_with fail
                      go_roundw
                      case rel =>
                        have hnx : ks = ks2 ↔ Tl.dr ks (j + 1) = Tl.dr ks2 (j + 1) := by rw [hd.out, hdr'.out, ← hr'.out]; simp
                        exact ⟨j + 1, by omega, by simp, Lib.hid hnx⟩
                      case measure => simp [intOf]; omega
                  · obtain rfl : j = N1 := by omega
                    go_wp2_with fail
                    go_ret
                    have he : ks = ks2 := by rw [hd.out, Tl.dr_end ks j (by rw [hN1'.out]; exact Nat.le_refl _), Tl.dr_end ks2 j (by rw [hN2'.out]; exact Nat.le_refl _)]
                    exact ⟨true, rfl, by first | (rw [hiff'.out]; simp [he, hpe'.out, hdd'.out]; done) | simp [he, hpe'.out, hdd'.out], hb⟩
          · have hno : ¬ ks = ks2 := fun h => hne (hN0'.out h)
            have hno' := Lib.hid hno
            clear hno
            subst hk hn hs hpl
            go_enter Tryz.func18, Tryz.ntmps18
            go_wp2_with fail
            go_ret
            exact ⟨false, rfl, by first | (rw [hiff'.out]; simp [hno'.out]; done) | simp [hno'.out], hba⟩
        · have hno : ¬ ps = ps2 := fun h => hpl (hL0'.out h)
          have hno' := Lib.hid hno
          clear hno
          subst hk hn hs
          go_enter Tryz.func18, Tryz.ntmps18
          go_wp2_with fail
          go_ret
          exact ⟨false, rfl, by first | (rw [hiff'.out]; simp [hno'.out]; done) | simp [hno'.out], hba⟩
      · obtain ⟨e1, e2, e3⟩ := str_ne hs
        have hno' := Lib.hid hs
        clear hs
        subst hk hn
        go_enter Tryz.func18, Tryz.ntmps18
        go_wp2_with fail
        go_ret
        exact ⟨false, rfl, by first | (rw [hiff'.out]; simp [hno'.out]; done) | simp, hba⟩
    · have hno' := Lib.hid hn
      subst hk
      go_enter Tryz.func18, Tryz.ntmps18
      go_wp2_with fail
      go_ret
      exact ⟨false, rfl, by first | (rw [hiff'.out]; simp [hno'.out]; done) | simp, hba⟩
  · have hno' := Lib.hid hk
    skip
    go_enter Tryz.func18, Tryz.ntmps18
    go_wp2_with fail
    go_ret
    exact ⟨false, rfl, by first | (rw [hiff'.out]; simp [hno'.out]; done) | simp, hba⟩
theorem equal_any (x : Tm) : EqOk x := Tl.all_one EqOk eq_step x
end Go.Proofs.YthbgopmpdkefkaaGreatDoor

/- The law's awake: answers that the document fixes. -/
namespace Go.Proofs.YthbgopmpdkefkaaGreatDoor
open Go.ChangeShapes Go.WideShapes Go.ChangeAt Go.RowKit Go.Deep
open TM (Tl Tm)

/-- what is owed of Same -/
def SameAny : Prop := ∀ (a b : Tm) (w : World) (u1 u2 u3 v1 v2 v3 : Value), TmIn w a u1 u2 u3 → TmIn w b v1 v2 v3 → TmBd a → TmBd b →
    Calls Tryz.prog 19 #[tmv a u1 u2 u3, tmv b v1 v2 v3] w (BoolIff (TM.okt a = true ∧ TM.okt b = true ∧ TM.alpha a = TM.alpha b) w)
def at0 : Tm := ⟨8, 0, [], [7, 3], ⟨0, 0, [], .nil⟩, .cons 2 3 [] [] ⟨0, 0, [], .nil⟩ .nil .nil⟩
def at1 : Tm := ⟨8, 0, [], [1, 2], ⟨0, 0, [], .nil⟩, .cons 2 2 [] [] ⟨0, 0, [], .nil⟩ .nil .nil⟩
def at2 : Tm := ⟨2, 1, [], [], ⟨0, 0, [], .nil⟩, .nil⟩
theorem at0_ok : TM.okt at0 = true := by decide +kernel
theorem at1_ok : TM.okt at1 = true := by decide +kernel
theorem at2_ok : TM.okt at2 = false := by decide +kernel
theorem at0_al : TM.alpha at0 = at1 := by rfl
theorem at1_al : TM.alpha at1 = at1 := by rfl
theorem at0_tx : TM.ttx at1 = [40, 108, 97, 109, 98, 100, 97, 32, 40, 46, 49, 32, 46, 50, 41, 32, 46, 50, 41] := by decide +kernel
theorem at0_bd : TmBd at0 := ⟨by unfold b64 at0; simp, by unfold b64 at0; simp, by unfold b64 at0; simp, by unfold b64 at0; simp, by unfold b64 at0; simp, trivial, by unfold at0; simp [TBd, Bd, b64]⟩
theorem at1_bd : TmBd at1 := ⟨by unfold b64 at1; simp, by unfold b64 at1; simp, by unfold b64 at1; simp, by unfold b64 at1; simp, by unfold b64 at1; simp, trivial, by unfold at1; simp [TBd, Bd, b64]⟩
theorem at2_bd : TmBd at2 := ⟨by unfold b64 at2; simp, by unfold b64 at2; simp, by unfold at2; simp, by unfold b64 at2; simp, by unfold b64 at2; simp, trivial, trivial⟩
theorem at2_in (w : World) : TmIn w at2 (.slice none 0 0) (.slice none 0 0) (.slice none 0 0) := ⟨PIn.nil w, In.nil w, TIn.nil w⟩
theorem at0_in (w : World) : TmIn ((w.alloc (.cells #[.int .i64 7, .int .i64 3] 3)).alloc (.cells #[.int .i64 2, .int .i64 3, .string ⟨#[]⟩, .slice none 0 0, .int .i64 0, .int .i64 0, .string ⟨#[]⟩, .slice none 0 0, .slice none 0 0] 28)) at0 (.slice (some ⟨w.heap.size, 0, none⟩) 2 2) (.slice none 0 0) (.slice (some ⟨w.heap.size + 1, 0, none⟩) 1 1) := by
  have hz : (w.alloc (.cells #[.int .i64 7, .int .i64 3] 3)).heap.size = w.heap.size + 1 := by simp
  have hA := (Lies.made w 3 #[.int .i64 7, .int .i64 3]).alloc (.cells #[.int .i64 2, .int .i64 3, .string ⟨#[]⟩, .slice none 0 0, .int .i64 0, .int .i64 0, .string ⟨#[]⟩, .slice none 0 0, .slice none 0 0] 28)
  have hB := Lies.made (w.alloc (.cells #[.int .i64 7, .int .i64 3] 3)) 28 #[.int .i64 2, .int .i64 3, .string ⟨#[]⟩, .slice none 0 0, .int .i64 0, .int .i64 0, .string ⟨#[]⟩, .slice none 0 0, .slice none 0 0]
  rw [hz] at hB
  refine ⟨⟨_, _, rfl, by simp [at0], w.heap.size, 0, fun _ => ⟨rfl, hA.lt⟩, fun j x hx => ?_⟩, In.nil _, ⟨_, _, rfl, by simp [at0, Tl.len], w.heap.size + 1, 0, fun _ => rfl, hB.lt, hB.cell 0, hB.cell 1, hB.cell 2, ⟨_, hB.cell 3, PIn.nil _⟩, hB.cell 4, hB.cell 5, hB.cell 6, ⟨_, hB.cell 7, In.nil _⟩, ⟨none, 0, hB.cell 8, by simp [Tl.len], 0, 0, fun h => absurd h (by simp [Tl.len]), trivial⟩, trivial⟩⟩
  rw [Nat.zero_add, hA.cell j]
  match j, hx with
  | 0, hx => simp [at0] at hx; subst hx; rfl
  | 1, hx => simp [at0] at hx; subst hx; rfl
  | j + 2, hx => simp [at0] at hx
set_option maxRecDepth 100000 in
set_option maxHeartbeats 8000000 in
theorem awake10_of (hSame : SameAny) (w : World) (hTab : Tab w) : Calls Tryz.prog 7 #[] w fun e w' => e = .returned (.bool true) ∧ Went w w' := by
  have hT0 := at0_in w
  obtain ⟨Wb, hWb⟩ : ∃ Wb, (w.alloc (.cells #[.int .i64 7, .int .i64 3] 3)).alloc (.cells #[.int .i64 2, .int .i64 3, .string ⟨#[]⟩, .slice none 0 0, .int .i64 0, .int .i64 0, .string ⟨#[]⟩, .slice none 0 0, .slice none 0 0] 28) = Wb := ⟨_, rfl⟩
  have hbb : Below w.heap.size w Wb := by rw [← hWb]; exact ((Below.refl _ w).alloc (Nat.le_refl _) _).alloc (by simp) _
  have hzb : Wb.heap.size = w.heap.size + 2 := by rw [← hWb]; simp
  rw [hWb] at hT0
  have hL := Lies.made Wb 28 #[.int .i64 8, .int .i64 0, .string ⟨#[]⟩, .slice (some ⟨w.heap.size, 0, none⟩) 2 2, .int .i64 0, .int .i64 0, .string ⟨#[]⟩, .slice none 0 0, .slice (some ⟨w.heap.size + 1, 0, none⟩) 1 1]
  obtain ⟨Wc, hWc⟩ : ∃ Wc, Wb.alloc (.cells #[.int .i64 8, .int .i64 0, .string ⟨#[]⟩, .slice (some ⟨w.heap.size, 0, none⟩) 2 2, .int .i64 0, .int .i64 0, .string ⟨#[]⟩, .slice none 0 0, .slice (some ⟨w.heap.size + 1, 0, none⟩) 1 1] 28) = Wc := ⟨_, rfl⟩
  have hbc : Below w.heap.size w Wc := by rw [← hWc]; exact hbb.alloc hbb.size _
  have hT1 : TmIn Wc at0 (.slice (some ⟨w.heap.size, 0, none⟩) 2 2) (.slice none 0 0) (.slice (some ⟨w.heap.size + 1, 0, none⟩) 1 1) := by rw [← hWc]; exact hT0.below ((Below.refl _ Wb).alloc (Nat.le_refl _) _)
  rw [hWc, hzb] at hL
  have hAl := Lib.hid (alpha_any at0 Wc _ _ _ hT1 at0_bd)
  have hTx := Lib.hid (fun (w' : World) (hb : Below w.heap.size w w') (hc : Below Wc.heap.size Wc w') => by
    have h := ttext_any at0 w' _ _ _ (hT1.below hc) at0_bd (hTab.on hb)
    rw [at0_ok, if_pos rfl, at0_al, at0_tx] at h
    exact h)
  have hTy := Lib.hid (fun (w' : World) (hb : Below w.heap.size w w') => by
    have h := ttext_any at2 w' _ _ _ (at2_in w') at2_bd (hTab.on hb)
    rw [at2_ok, if_neg (by decide)] at h
    exact h)
  have hSm := Lib.hid (fun (w' : World) (hc : Below Wc.heap.size Wc w') (vp vi vk : Value) (h1 : TmIn w' at1 vp vi vk) => hSame at0 at1 w' _ _ _ vp vi vk (hT1.below hc) h1 at0_bd at1_bd)
  have hCk := Lib.hid (fun (w' : World) (hc : Below Wc.heap.size Wc w') => by
    have h := tcheck_any at0 w' _ _ _ (hT1.below hc) at0_bd
    rw [at0_ok, show chv true = Value.nilIface from rfl] at h
    exact h)
  unfold AlN at hAl
  rw [at0_al] at hAl
  unfold tmv at hAl hTx hTy hSm hCk
  unfold chv at hTx hTy
  simp only [at0, at1, at2] at hAl hTx hTy hSm hCk
  clear hT0 hT1 hTab hSame hbb
  have y0 := hL.cell 0
  have y1 := hL.cell 1
  have y2 := hL.cell 2
  have y3 := hL.cell 3
  have y4 := hL.cell 4
  have y5 := hL.cell 5
  have y6 := hL.cell 6
  have y7 := hL.cell 7
  have y8 := hL.cell 8
  simp only [List.getElem?_cons_succ, List.getElem?_cons_zero] at y0 y1 y2 y3 y4 y5 y6 y7 y8
  go_enter Tryz.func7, Tryz.ntmps7
  go_wp2_with (first
    | (go_at_call 15
       refine hAl.out.mono ?_
       rintro e w5 ⟨h5, -, hb5⟩
       obtain ⟨vp5, vi5, vk5, rfl, hT5⟩ := h5 at0_ok
       obtain ⟨P5, p5, e5⟩ := hT5.p.read
       have e5' : vp5 = .slice P5 2 p5 := e5
       subst e5'
       obtain ⟨I5, q5, e6⟩ := hT5.d.read
       have e6' : vi5 = .slice I5 0 q5 := e6
       subst e6'
       obtain ⟨K5, r5, e7⟩ := hT5.k.read
       have e7' : vk5 = .slice K5 1 r5 := e7
       subst e7'
       have hT5' : TmIn w5 at1 (.slice P5 2 p5) (.slice I5 0 q5) (.slice K5 1 r5) := hT5
       obtain ⟨bp, op, rfl, hbp, u1⟩ := PIn.cell (l := [1, 2]) hT5'.p (j := 1) (x := 2) rfl
       obtain ⟨bk, ok, Pk, pk, Ik, qk, Kk, rk, rfl, hbk, -, u2, -⟩ := TIn.at_ (t := at1.ks) hT5'.k (i := 0) (x := ⟨2, 2, [], [], ⟨0, 0, [], .nil⟩, .nil⟩) rfl
       have u2' : w5.cell? ⟨bk, ok + 1, none⟩ = some (.int .i64 2) := by simpa using u2
       have hL6 := (hL.below hb5 hL.lt).alloc (.cells #[.int .i64 8, .int .i64 0, .string ⟨#[]⟩, .slice (some ⟨bp, op, none⟩) 2 p5, .int .i64 0, .int .i64 0, .string ⟨#[]⟩, .slice I5 0 q5, .slice (some ⟨bk, ok, none⟩) 1 r5] 28)
       have hM6 := Lies.made w5 28 #[.int .i64 8, .int .i64 0, .string ⟨#[]⟩, .slice (some ⟨bp, op, none⟩) 2 p5, .int .i64 0, .int .i64 0, .string ⟨#[]⟩, .slice I5 0 q5, .slice (some ⟨bk, ok, none⟩) 1 r5]
       have hc6 : Below Wc.heap.size Wc (w5.alloc (.cells #[.int .i64 8, .int .i64 0, .string ⟨#[]⟩, .slice (some ⟨bp, op, none⟩) 2 p5, .int .i64 0, .int .i64 0, .string ⟨#[]⟩, .slice I5 0 q5, .slice (some ⟨bk, ok, none⟩) 1 r5] 28)) := Below.alloc hb5 hb5.size _
       have hb6 : Below w.heap.size w (w5.alloc (.cells #[.int .i64 8, .int .i64 0, .string ⟨#[]⟩, .slice (some ⟨bp, op, none⟩) 2 p5, .int .i64 0, .int .i64 0, .string ⟨#[]⟩, .slice I5 0 q5, .slice (some ⟨bk, ok, none⟩) 1 r5] 28)) := hbc.trans (hc6.mono hbc.size)
       have ha6 : Below w5.heap.size w5 (w5.alloc (.cells #[.int .i64 8, .int .i64 0, .string ⟨#[]⟩, .slice (some ⟨bp, op, none⟩) 2 p5, .int .i64 0, .int .i64 0, .string ⟨#[]⟩, .slice I5 0 q5, .slice (some ⟨bk, ok, none⟩) 1 r5] 28)) := (Below.refl _ w5).alloc (Nat.le_refl _) _
       have x0 := hL6.cell 0
       have x1 := hL6.cell 1
       have x2 := hL6.cell 2
       have x3 := hL6.cell 3
       have x4 := hL6.cell 4
       have x5 := hL6.cell 5
       have x6 := hL6.cell 6
       have x7 := hL6.cell 7
       have x8 := hL6.cell 8
       simp only [List.getElem?_cons_succ, List.getElem?_cons_zero] at x0 x1 x2 x3 x4 x5 x6 x7 x8
       have hlt5 := hL6.lt
       have hT5'' := Lib.hid hT5'
       clear hb5 h5 hT5 hT5' e5 e6 e7 u2 y0 y1 y2 y3 y4 y5 y6 y7 y8)
    | (go_at_call 16
       with_reducible refine (hTx.out _ hb6 hc6).mono ?_
       rintro e w7 ⟨rfl, hb7⟩
       have hL8 := hL6.below hb7 hL6.lt
       have hM8 := hM6.below hb7 hM6.lt
       have hc8 := hc6.trans (Below.mono hb7 hc6.size)
       have hb8 := hb6.trans (Below.mono hb7 hb6.size)
       have ha8 := ha6.trans (Below.mono hb7 ha6.size)
       clear hb7 x0 x1 x2 x3 x4 x5 x6 x7 x8)
    | (go_at_call 16
       refine (hTy.out _ hb8).mono ?_
       rintro e w9 ⟨rfl, hb9⟩
       have hL10 := hL8.below hb9 hL8.lt
       have hM10 := hM8.below hb9 hM8.lt
       have hc10 := hc8.trans (Below.mono hb9 hc8.size)
       have hb10 := hb8.trans (Below.mono hb9 hb8.size)
       have ha10 := ha8.trans (Below.mono hb9 ha8.size)
       have v1 := (ha10.cell (p := ⟨bp, op + 1, none⟩) hbp).trans u1
       have v2 := (ha10.cell (p := ⟨bk, ok + 1, none⟩) hbk).trans u2'
       have x0 := hL10.cell 0
       have x1 := hL10.cell 1
       have x2 := hL10.cell 2
       have x3 := hL10.cell 3
       have x4 := hL10.cell 4
       have x5 := hL10.cell 5
       have x6 := hL10.cell 6
       have x7 := hL10.cell 7
       have x8 := hL10.cell 8
       have z0 := hM10.cell 0
       have z1 := hM10.cell 1
       have z2 := hM10.cell 2
       have z3 := hM10.cell 3
       have z4 := hM10.cell 4
       have z5 := hM10.cell 5
       have z6 := hM10.cell 6
       have z7 := hM10.cell 7
       have z8 := hM10.cell 8
       simp only [List.getElem?_cons_succ, List.getElem?_cons_zero] at x0 x1 x2 x3 x4 x5 x6 x7 x8 z0 z1 z2 z3 z4 z5 z6 z7 z8
       have hT10 := Lib.hid (TmIn.below hT5''.out ha10)
       clear hb9)
    | (go_at_call 14; refine (is_same _ _).mono ?_; rintro e w13 ⟨rfl, rfl⟩)
    | (go_at_call 19
       refine (hSm.out _ hc10 _ _ _ hT10.out).mono ?_
       rintro e w11 ⟨r, rfl, hr, hb11⟩
       obtain rfl : r = true := hr.2 ⟨at0_ok, at1_ok, at0_al.trans at1_al.symm⟩
       have hL12 := hL10.below hb11 hL10.lt
       have hc12 := hc10.trans (Below.mono hb11 hc10.size)
       have hb12 := hb10.trans (Below.mono hb11 hb10.size)
       have q0 := hL12.cell 0
       have q1 := hL12.cell 1
       have q2 := hL12.cell 2
       have q3 := hL12.cell 3
       have q4 := hL12.cell 4
       have q5 := hL12.cell 5
       have q6 := hL12.cell 6
       have q7 := hL12.cell 7
       have q8 := hL12.cell 8
       simp only [List.getElem?_cons_succ, List.getElem?_cons_zero] at q0 q1 q2 q3 q4 q5 q6 q7 q8
       clear hr hb11 x0 x1 x2 x3 x4 x5 x6 x7 x8 z0 z1 z2 z3 z4 z5 z6 z7 z8)
    | (go_at_call 9
       refine (hCk.out _ hc12).mono ?_
       rintro e w14 ⟨rfl, hb14⟩))
  go_ret
  exact ⟨rfl, hb12.trans (Below.mono hb14 hb12.size)⟩
end Go.Proofs.YthbgopmpdkefkaaGreatDoor

/- The reference of layer 10: right, a term where some locals are bound. -/
namespace Go.Proofs.YthbgopmpdkefkaaGreatDoor
open Go.ChangeShapes Go.WideShapes Go.ChangeAt Go.RowKit Go.Deep
open TM (Tl Tm)

namespace TM
theorem fit_bool (bd : List Int) (k n : Int) (s : List UInt8) (ps : List Int) (d : RM.Dm) (ks : Tl) (N L3 : Nat) (hN : ks.len = N) (hL : ps.length = L3) :
    fit bd ⟨k, n, s, ps, d, ks⟩ = if k = 1 then ((N : Int) == 0) && s.isEmpty && ((L3 : Int) == 0) && (n == 0) && quo d
      else if k = 2 then ((N : Int) == 0) && s.isEmpty && ((L3 : Int) == 0) && bd.contains n && nod d
      else if k = 3 then ((N : Int) == 0) && ((L3 : Int) == 0) && (n == 0) && LM.sym s && nod d
      else if k = 4 then ((N : Int) == 1) && s.isEmpty && ((L3 : Int) == 0) && bd.contains n && nod d
      else if k = 5 ∨ k = 6 then ((N : Int) == 1) && ((L3 : Int) == 0) && (n == 0) && LM.sym s && nod d
      else if k = 7 then (((N : Int) == 2) || ((N : Int) == 3)) && s.isEmpty && ((L3 : Int) == 0) && (n == 0) && nod d
      else if k = 8 then ((N : Int) == 1) && s.isEmpty && decide ((L3 : Int) ≤ 24) && ((n == 0) || ((n == 1) && !((L3 : Int) == 0))) && nod d
      else if k = 9 then decide (1 ≤ (N : Int)) && s.isEmpty && ((L3 : Int) == 0) && (n == 0) && nod d
      else if k = 10 then decide (1 ≤ (N : Int)) && decide ((N : Int) ≤ 29) && s.isEmpty && ((L3 : Int) == 0) && (n == 0) && nod d
      else false := by
  have aN : ∀ m : Nat, decide (ks.len = m) = ((N : Int) == (m : Int)) := fun m => by
    rw [hN, Bool.eq_iff_iff]; simp; omega
  have a0 := aN 0
  have a1 := aN 1
  have a2 := aN 2
  have a3 := aN 3
  have a6 : decide (s = []) = s.isEmpty := by cases s <;> simp
  have a8 : decide (ps = []) = ((L3 : Int) == 0) := by
    rw [← hL, Bool.eq_iff_iff]
    cases ps <;> simp <;> omega
  have a9 : ∀ m : Int, decide (n = m) = (n == m) := fun m => by rw [Bool.eq_iff_iff]; simp
  have aL : decide (ps.length ≤ 24) = decide ((L3 : Int) ≤ 24) := by
    rw [hL]; exact decide_eq_decide.2 (by omega)
  have b1 : decide (1 ≤ ks.len) = decide (1 ≤ (N : Int)) := by rw [hN]; exact decide_eq_decide.2 (by omega)
  have b2 : decide (ks.len ≤ 29) = decide ((N : Int) ≤ 29) := by rw [hN]; exact decide_eq_decide.2 (by omega)
  unfold fit
  simp only [a0, a1, a2, a3, a6, a8, a9, aL, b1, b2]
  rfl
theorem fit_params {bd : List Int} {t : Tm} (h : fit bd t = true) (hk : ¬ t.k = 8) : t.ps = [] := by
  unfold fit at h
  by_cases h1 : t.k = 1
  · rw [if_pos h1] at h; simp at h; exact h.1.1.2
  rw [if_neg h1] at h
  by_cases h2 : t.k = 2
  · rw [if_pos h2] at h; simp at h; exact h.1.1.2
  rw [if_neg h2] at h
  by_cases h3 : t.k = 3
  · rw [if_pos h3] at h; simp at h; exact h.1.1.1.2
  rw [if_neg h3] at h
  by_cases h4 : t.k = 4
  · rw [if_pos h4] at h; simp at h; exact h.1.1.2
  rw [if_neg h4] at h
  by_cases h5 : t.k = 5 ∨ t.k = 6
  · rw [if_pos h5] at h; simp at h; exact h.1.1.1.2
  rw [if_neg h5] at h
  by_cases h7 : t.k = 7
  · rw [if_pos h7] at h; simp at h; exact h.1.1.2
  rw [if_neg h7, if_neg hk] at h
  by_cases h9 : t.k = 9
  · rw [if_pos h9] at h; simp at h; exact h.1.1.2
  rw [if_neg h9] at h
  by_cases h10 : t.k = 10
  · rw [if_pos h10] at h; simp at h; exact h.1.1.2
  rw [if_neg h10] at h
  simp at h
end TM
def RgOk (t : Tm) : Prop := ∀ (w : World) (vb : Value) (bd : List Int) (vp vi vk : Value), TmIn w t vp vi vk → PIn w vb bd → bd.length + (t.ps ++ TM.prs t.ks).length ≤ 1000000 →
  Calls Tryz.prog 32 #[tmv t vp vi vk, vb] w fun e w' => e = .returned (.bool (TM.ok1 bd t)) ∧ Went w w'
theorem TM.rg_fin {ok dt F : Bool} {bd2 bdp : List Int} {ks : Tl} (h : (ok && dt) = F) (hp : F = true → bd2 = bdp) : (ok && TM.rtl bd2 ks && dt) = (F && TM.rtl bdp ks) := by
  cases F
  · cases ok <;> cases dt <;> simp_all
  · have := hp rfl
    subst this
    cases ok <;> cases dt <;> simp_all
end Go.Proofs.YthbgopmpdkefkaaGreatDoor
