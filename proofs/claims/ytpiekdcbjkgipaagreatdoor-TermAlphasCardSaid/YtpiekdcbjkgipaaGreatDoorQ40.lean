/- Package term: Same. -/
import Derived.Test.YtpiekdcbjkgipaaGreatDoorQ32
import Derived.Test.YtpiekdcbjkgipaaGreatDoorQ31
import Derived.Deep.RegionHeld3
namespace Go.Proofs.YtpiekdcbjkgipaaGreatDoor
open Go.ChangeShapes Go.WideShapes Go.ChangeAt Go.RowKit Go.Deep
open TM (Tl Tm)

set_option maxRecDepth 100000 in
theorem load_term (w : World) (ev : Operand → Value) (o : Oper) (x : Operand) (g : Nat) (c0 c1 c2 c3 c4 c5 c6 c7 c8 : Value) (ho : o.op = .load 28 x) (hx : ev x = .pointer (some ⟨g, 0, none⟩)) (h : Lies w g 28 [c0, c1, c2, c3, c4, c5, c6, c7, c8]) :
    (execOp ev o).run Tryz.prog w = .ok (.value (.agg #[c0, c1, c2, c3, c4, c5, c6, c7, c8])) w := by
  have x0 := h.cell 0
  have x1 := h.cell 1
  have x2 := h.cell 2
  have x3 := h.cell 3
  have x4 := h.cell 4
  have x5 := h.cell 5
  have x6 := h.cell 6
  have x7 := h.cell 7
  have x8 := h.cell 8
  simp only [List.getElem?_cons_succ, List.getElem?_cons_zero] at x0 x1 x2 x3 x4 x5 x6 x7 x8
  obtain ⟨d, op, ty, ps, af, gd⟩ := o
  simp only at ho
  subst ho
  clear h
  go_simp
set_option maxRecDepth 100000 in
set_option maxHeartbeats 8000000 in
theorem tsame_left (a b : Tm) (w : World) (u1 u2 u3 v1 v2 v3 : Value) (h1 : TmIn w a u1 u2 u3) (_h2 : TmIn w b v1 v2 v3) (b1 : TmBd a) (_b2 : TmBd b) (hok1 : TM.okt a = false) :
    Calls Tryz.prog 19 #[tmv a u1 u2 u3, tmv b v1 v2 v3] w (BoolIff (TM.okt a = true ∧ TM.okt b = true ∧ TM.alpha a = TM.alpha b) w) := by
  have hA := Lib.hid (fun (w' : World) (hb : Below w.heap.size w w') => tcheck_any a w' u1 u2 u3 (h1.below hb) b1)
  rw [hok1] at hA
  unfold chv tmv at hA
  have hno : ¬ (TM.okt a = true ∧ TM.okt b = true ∧ TM.alpha a = TM.alpha b) := by rw [hok1]; simp
  have hno' := Lib.hid hno
  generalize (TM.okt a = true ∧ TM.okt b = true ∧ TM.alpha a = TM.alpha b) = Z at hno' ⊢
  have hL1 := (Lies.made w 28 #[.int .i64 a.k, .int .i64 a.n, .string ⟨a.s.toArray⟩, u1, .int .i64 a.d.k, .int .i64 a.d.n, .string ⟨a.d.s.toArray⟩, u2, u3]).alloc (.cells #[.int .i64 b.k, .int .i64 b.n, .string ⟨b.s.toArray⟩, v1, .int .i64 b.d.k, .int .i64 b.d.n, .string ⟨b.d.s.toArray⟩, v2, v3] 28)
  have hz1 : (w.alloc (.cells #[.int .i64 a.k, .int .i64 a.n, .string ⟨a.s.toArray⟩, u1, .int .i64 a.d.k, .int .i64 a.d.n, .string ⟨a.d.s.toArray⟩, u2, u3] 28)).heap.size = w.heap.size + 1 := by simp
  have hL2 := Lies.made (w.alloc (.cells #[.int .i64 a.k, .int .i64 a.n, .string ⟨a.s.toArray⟩, u1, .int .i64 a.d.k, .int .i64 a.d.n, .string ⟨a.d.s.toArray⟩, u2, u3] 28)) 28 #[.int .i64 b.k, .int .i64 b.n, .string ⟨b.s.toArray⟩, v1, .int .i64 b.d.k, .int .i64 b.d.n, .string ⟨b.d.s.toArray⟩, v2, v3]
  rw [hz1] at hL2
  have hba : Below w.heap.size w ((w.alloc (.cells #[.int .i64 a.k, .int .i64 a.n, .string ⟨a.s.toArray⟩, u1, .int .i64 a.d.k, .int .i64 a.d.n, .string ⟨a.d.s.toArray⟩, u2, u3] 28)).alloc (.cells #[.int .i64 b.k, .int .i64 b.n, .string ⟨b.s.toArray⟩, v1, .int .i64 b.d.k, .int .i64 b.d.n, .string ⟨b.d.s.toArray⟩, v2, v3] 28)) := ((Below.refl _ w).alloc (Nat.le_refl _) _).alloc (by simp) _
  obtain ⟨W2, hW2⟩ : ∃ W2, ((w.alloc (.cells #[.int .i64 a.k, .int .i64 a.n, .string ⟨a.s.toArray⟩, u1, .int .i64 a.d.k, .int .i64 a.d.n, .string ⟨a.d.s.toArray⟩, u2, u3] 28)).alloc (.cells #[.int .i64 b.k, .int .i64 b.n, .string ⟨b.s.toArray⟩, v1, .int .i64 b.d.k, .int .i64 b.d.n, .string ⟨b.d.s.toArray⟩, v2, v3] 28)) = W2 := ⟨_, rfl⟩
  rw [hW2] at hL1 hL2 hba
  have hbd := below_drew1 hba
  unfold tmv
  clear h1 _h2 b1 _b2 hz1 hok1 hno
  go_enter Tryz.func19, Tryz.ntmps19
  go_wp2_with fail
  refine wp_region_held_drew (S := (fun w' => Lies w' w.heap.size 28 [.int .i64 a.k, .int .i64 a.n, .string ⟨a.s.toArray⟩, u1, .int .i64 a.d.k, .int .i64 a.d.n, .string ⟨a.d.s.toArray⟩, u2, u3] ∧ Lies w' (w.heap.size + 1) 28 [.int .i64 b.k, .int .i64 b.n, .string ⟨b.s.toArray⟩, v1, .int .i64 b.d.k, .int .i64 b.d.n, .string ⟨b.d.s.toArray⟩, v2, v3])) rfl ⟨hL1.drew, hL2.drew⟩ (fun hHeld => ?_)
  refine wpAnyH_take (i := 0) (oi := { dst := some 5, op := Go.Op.load 28 (Go.Operand.tmp 2), type := 28, pos := "term.go:41", after := #[], guard := none }) (v := _) rfl (by kernel_rfl) (by kernel_rfl) (by kernel_rfl) (fun _ _ _ h => h) (Or.inl ⟨by rfl, fun w' hS => load_term w' _ _ _ _ _ _ _ _ _ _ _ _ _ rfl rfl hS.1⟩) (by assumption) ?_
  try simp only [Act.put, List.setIfInBounds_toArray, List.set_cons_zero, List.set_cons_succ]
  refine wpAnyH_ready (rs := [1]) (by kernel_rfl) (by simp) ?_
  refine AllReadyH.cons (o := { dst := some 6, op := Go.Op.call { callee := Go.Callee.value (Go.Operand.func 9), args := #[Go.Operand.tmp 5], argTypes := #[28] }, type := 32, pos := "term.go:41", after := #[{ on := 0, ground := Go.Ground.data }], guard := none }) rfl (fun K hK => ?_) AllReadyH.nil
  rw [if_pos (by rfl)]
  go_simp
  refine (hA.out _ hbd).mono ?_
  rintro e w7 ⟨rfl, hb7⟩
  have R7 := Lib.hid (hbd.trans (Below.mono hb7 hbd.size))
  have hM1 := hHeld.1.below hb7 hHeld.1.lt
  have hM2 := hHeld.2.below hb7 hHeld.2.lt
  clear hb7 hHeld
  refine hK.out _ _ ⟨hM1, hM2⟩ (fun hHeld => ?_)
  clear hK K
  try simp only [Act.put, List.setIfInBounds_toArray, List.set_cons_zero, List.set_cons_succ]
  refine wpAnyH_take (i := 2) (oi := { dst := some 7, op := Go.Op.binOp Go.BinOp.eql 32 (Go.Operand.tmp 6) (Go.Operand.const Go.Value.nilIface) 32, type := 4, pos := "term.go:41", after := #[{ on := 1, ground := Go.Ground.data }], guard := none }) (v := ?_) rfl (by kernel_rfl) (by kernel_rfl) (by kernel_rfl) (fun _ _ _ h => h) (Or.inl ⟨by rfl, ?_⟩) (by assumption) ?_
  rotate_left
  · intro w hSw; clear hSw; go_simp; try with_reducible rfl
  try simp only [Act.put, List.setIfInBounds_toArray, List.set_cons_zero, List.set_cons_succ]
  refine wpAnyH_take (i := 3) (oi := { dst := some 8, op := Go.Op.move (Go.Operand.tmp 7), type := 4, pos := "term.go:41", after := #[{ on := 2, ground := Go.Ground.data }, { on := 1, ground := Go.Ground.chain }], guard := none }) (v := ?_) rfl (by kernel_rfl) (by kernel_rfl) (by kernel_rfl) (fun _ _ _ h => h) (Or.inl ⟨by rfl, ?_⟩) (by assumption) ?_
  rotate_left
  · intro w hSw; clear hSw; go_simp; try with_reducible rfl
  try simp only [Act.put, List.setIfInBounds_toArray, List.set_cons_zero, List.set_cons_succ]
  refine wpAnyH_take (i := 4) (oi := { dst := some 9, op := Go.Op.load 28 (Go.Operand.tmp 3), type := 28, pos := "term.go:41", after := #[{ on := 3, ground := Go.Ground.guard }], guard := some (3, true) }) (v := undef) rfl (by kernel_rfl) (by kernel_rfl) (by kernel_rfl) (fun _ _ _ h => h) (Or.inr ⟨by rfl, rfl⟩) (by assumption) ?_
  try simp only [Act.put, List.setIfInBounds_toArray, List.set_cons_zero, List.set_cons_succ]
  refine wpAnyH_take (i := 5) (oi := { dst := some 10, op := Go.Op.call { callee := Go.Callee.value (Go.Operand.func 9), args := #[Go.Operand.tmp 9], argTypes := #[28] }, type := 32, pos := "term.go:41", after := #[{ on := 4, ground := Go.Ground.data }, { on := 3, ground := Go.Ground.chain }, { on := 3, ground := Go.Ground.guard }], guard := some (3, true) }) (v := undef) rfl (by kernel_rfl) (by kernel_rfl) (by kernel_rfl) (fun _ _ _ h => h) (Or.inr ⟨by rfl, rfl⟩) (by assumption) ?_
  try simp only [Act.put, List.setIfInBounds_toArray, List.set_cons_zero, List.set_cons_succ]
  refine wpAnyH_take (i := 6) (oi := { dst := some 11, op := Go.Op.binOp Go.BinOp.eql 32 (Go.Operand.tmp 10) (Go.Operand.const Go.Value.nilIface) 32, type := 4, pos := "term.go:41", after := #[{ on := 5, ground := Go.Ground.data }, { on := 3, ground := Go.Ground.guard }], guard := some (3, true) }) (v := undef) rfl (by kernel_rfl) (by kernel_rfl) (by kernel_rfl) (fun _ _ _ h => h) (Or.inr ⟨by rfl, rfl⟩) (by assumption) ?_
  try simp only [Act.put, List.setIfInBounds_toArray, List.set_cons_zero, List.set_cons_succ]
  refine wpAnyH_take (i := 7) (oi := { dst := some 12, op := Go.Op.pick (Go.Operand.tmp 8) (Go.Operand.tmp 11) (Go.Operand.const (Go.Value.bool false)), type := 4, pos := "term.go:41", after := #[{ on := 3, ground := Go.Ground.data }, { on := 6, ground := Go.Ground.data }], guard := none }) (v := ?_) rfl (by kernel_rfl) (by kernel_rfl) (by kernel_rfl) (fun _ _ _ h => h) (Or.inl ⟨by rfl, ?_⟩) (by assumption) ?_
  rotate_left
  · intro w hSw; clear hSw; go_simp; try with_reducible rfl
  try simp only [Act.put, List.setIfInBounds_toArray, List.set_cons_zero, List.set_cons_succ]
  refine wpAnyH_take (i := 8) (oi := { dst := some 13, op := Go.Op.move (Go.Operand.tmp 12), type := 4, pos := "term.go:41", after := #[{ on := 7, ground := Go.Ground.data }, { on := 5, ground := Go.Ground.chain }], guard := none }) (v := ?_) rfl (by kernel_rfl) (by kernel_rfl) (by kernel_rfl) (fun _ _ _ h => h) (Or.inl ⟨by rfl, ?_⟩) (by assumption) ?_
  rotate_left
  · intro w hSw; clear hSw; go_simp; try with_reducible rfl
  try simp only [Act.put, List.setIfInBounds_toArray, List.set_cons_zero, List.set_cons_succ]
  refine wpAnyH_take (i := 9) (oi := { dst := some 14, op := Go.Op.makeMap 60 none, type := 60, pos := "term.go:41", after := #[{ on := 8, ground := Go.Ground.guard }], guard := some (8, true) }) (v := undef) rfl (by kernel_rfl) (by kernel_rfl) (by kernel_rfl) (fun _ _ _ h => h) (Or.inr ⟨by rfl, rfl⟩) (by assumption) ?_
  try simp only [Act.put, List.setIfInBounds_toArray, List.set_cons_zero, List.set_cons_succ]
  refine wpAnyH_take (i := 10) (oi := { dst := some 15, op := Go.Op.load 28 (Go.Operand.tmp 2), type := 28, pos := "term.go:41", after := #[{ on := 8, ground := Go.Ground.guard }], guard := some (8, true) }) (v := undef) rfl (by kernel_rfl) (by kernel_rfl) (by kernel_rfl) (fun _ _ _ h => h) (Or.inr ⟨by rfl, rfl⟩) (by assumption) ?_
  try simp only [Act.put, List.setIfInBounds_toArray, List.set_cons_zero, List.set_cons_succ]
  refine wpAnyH_take (i := 11) (oi := { dst := some 16, op := Go.Op.call { callee := Go.Callee.value (Go.Operand.func 36), args := #[Go.Operand.tmp 14, Go.Operand.tmp 15], argTypes := #[60, 28] }, type := 28, pos := "term.go:41", after := #[{ on := 9, ground := Go.Ground.data }, { on := 10, ground := Go.Ground.data }, { on := 8, ground := Go.Ground.chain }, { on := 8, ground := Go.Ground.guard }], guard := some (8, true) }) (v := undef) rfl (by kernel_rfl) (by kernel_rfl) (by kernel_rfl) (fun _ _ _ h => h) (Or.inr ⟨by rfl, rfl⟩) (by assumption) ?_
  try simp only [Act.put, List.setIfInBounds_toArray, List.set_cons_zero, List.set_cons_succ]
  refine wpAnyH_take (i := 12) (oi := { dst := some 17, op := Go.Op.makeMap 60 none, type := 60, pos := "term.go:41", after := #[{ on := 8, ground := Go.Ground.guard }], guard := some (8, true) }) (v := undef) rfl (by kernel_rfl) (by kernel_rfl) (by kernel_rfl) (fun _ _ _ h => h) (Or.inr ⟨by rfl, rfl⟩) (by assumption) ?_
  try simp only [Act.put, List.setIfInBounds_toArray, List.set_cons_zero, List.set_cons_succ]
  refine wpAnyH_take (i := 13) (oi := { dst := some 18, op := Go.Op.load 28 (Go.Operand.tmp 3), type := 28, pos := "term.go:41", after := #[{ on := 8, ground := Go.Ground.guard }], guard := some (8, true) }) (v := undef) rfl (by kernel_rfl) (by kernel_rfl) (by kernel_rfl) (fun _ _ _ h => h) (Or.inr ⟨by rfl, rfl⟩) (by assumption) ?_
  try simp only [Act.put, List.setIfInBounds_toArray, List.set_cons_zero, List.set_cons_succ]
  refine wpAnyH_take (i := 14) (oi := { dst := some 19, op := Go.Op.call { callee := Go.Callee.value (Go.Operand.func 36), args := #[Go.Operand.tmp 17, Go.Operand.tmp 18], argTypes := #[60, 28] }, type := 28, pos := "term.go:41", after := #[{ on := 12, ground := Go.Ground.data }, { on := 13, ground := Go.Ground.data }, { on := 11, ground := Go.Ground.chain }, { on := 8, ground := Go.Ground.guard }], guard := some (8, true) }) (v := undef) rfl (by kernel_rfl) (by kernel_rfl) (by kernel_rfl) (fun _ _ _ h => h) (Or.inr ⟨by rfl, rfl⟩) (by assumption) ?_
  try simp only [Act.put, List.setIfInBounds_toArray, List.set_cons_zero, List.set_cons_succ]
  refine wpAnyH_take (i := 15) (oi := { dst := some 20, op := Go.Op.call { callee := Go.Callee.value (Go.Operand.func 42), args := #[Go.Operand.tmp 16, Go.Operand.tmp 19], argTypes := #[28, 28] }, type := 4, pos := "term.go:41", after := #[{ on := 11, ground := Go.Ground.data }, { on := 14, ground := Go.Ground.data }, { on := 14, ground := Go.Ground.chain }, { on := 8, ground := Go.Ground.guard }], guard := some (8, true) }) (v := undef) rfl (by kernel_rfl) (by kernel_rfl) (by kernel_rfl) (fun _ _ _ h => h) (Or.inr ⟨by rfl, rfl⟩) (by assumption) ?_
  try simp only [Act.put, List.setIfInBounds_toArray, List.set_cons_zero, List.set_cons_succ]
  refine wpAnyH_take (i := 16) (oi := { dst := some 21, op := Go.Op.pick (Go.Operand.tmp 13) (Go.Operand.tmp 20) (Go.Operand.const (Go.Value.bool false)), type := 4, pos := "term.go:41", after := #[{ on := 8, ground := Go.Ground.data }, { on := 15, ground := Go.Ground.data }], guard := none }) (v := ?_) rfl (by kernel_rfl) (by kernel_rfl) (by kernel_rfl) (fun _ _ _ h => h) (Or.inl ⟨by rfl, ?_⟩) (by assumption) ?_
  rotate_left
  · intro w hSw; clear hSw; go_simp; try with_reducible rfl
  try simp only [Act.put, List.setIfInBounds_toArray, List.set_cons_zero, List.set_cons_succ]
  refine wpAnyH_take (i := 17) (oi := { dst := some 4, op := Go.Op.assign (Go.Operand.tmp 21), type := 4, pos := "term.go:41", after := #[{ on := 16, ground := Go.Ground.data }, { on := 15, ground := Go.Ground.chain }, { on := 0, ground := Go.Ground.phase }, { on := 1, ground := Go.Ground.phase }, { on := 2, ground := Go.Ground.phase }, { on := 3, ground := Go.Ground.phase }, { on := 4, ground := Go.Ground.phase }, { on := 5, ground := Go.Ground.phase }, { on := 6, ground := Go.Ground.phase }, { on := 7, ground := Go.Ground.phase }, { on := 8, ground := Go.Ground.phase }, { on := 9, ground := Go.Ground.phase }, { on := 10, ground := Go.Ground.phase }, { on := 11, ground := Go.Ground.phase }, { on := 12, ground := Go.Ground.phase }, { on := 13, ground := Go.Ground.phase }, { on := 14, ground := Go.Ground.phase }, { on := 15, ground := Go.Ground.phase }, { on := 16, ground := Go.Ground.phase }], guard := none }) (v := ?_) rfl (by kernel_rfl) (by kernel_rfl) (by kernel_rfl) (fun _ _ _ h => h) (Or.inl ⟨by rfl, ?_⟩) (by assumption) ?_
  rotate_left
  · intro w hSw; clear hSw; go_simp; try with_reducible rfl
  try simp only [Act.put, List.setIfInBounds_toArray, List.set_cons_zero, List.set_cons_succ]
  refine wpAnyH_done (by kernel_rfl) ?_ _
  go_wp2_with fail
  go_ret
  exact ⟨false, rfl, by simp [hno'.out], R7.out⟩
set_option maxRecDepth 100000 in
set_option maxHeartbeats 8000000 in
theorem tsame_right (a b : Tm) (w : World) (u1 u2 u3 v1 v2 v3 : Value) (h1 : TmIn w a u1 u2 u3) (h2 : TmIn w b v1 v2 v3) (b1 : TmBd a) (b2 : TmBd b) (hok1 : TM.okt a = true) (hok2 : TM.okt b = false) :
    Calls Tryz.prog 19 #[tmv a u1 u2 u3, tmv b v1 v2 v3] w (BoolIff (TM.okt a = true ∧ TM.okt b = true ∧ TM.alpha a = TM.alpha b) w) := by
  have hA := Lib.hid (fun (w' : World) (hb : Below w.heap.size w w') => tcheck_any a w' u1 u2 u3 (h1.below hb) b1)
  rw [hok1] at hA
  have hB := Lib.hid (fun (w' : World) (hb : Below w.heap.size w w') => tcheck_any b w' v1 v2 v3 (h2.below hb) b2)
  rw [hok2] at hB
  unfold chv tmv at hA hB
  have hno : ¬ (TM.okt a = true ∧ TM.okt b = true ∧ TM.alpha a = TM.alpha b) := by rw [hok2]; simp
  have hno' := Lib.hid hno
  generalize (TM.okt a = true ∧ TM.okt b = true ∧ TM.alpha a = TM.alpha b) = Z at hno' ⊢
  have hL1 := (Lies.made w 28 #[.int .i64 a.k, .int .i64 a.n, .string ⟨a.s.toArray⟩, u1, .int .i64 a.d.k, .int .i64 a.d.n, .string ⟨a.d.s.toArray⟩, u2, u3]).alloc (.cells #[.int .i64 b.k, .int .i64 b.n, .string ⟨b.s.toArray⟩, v1, .int .i64 b.d.k, .int .i64 b.d.n, .string ⟨b.d.s.toArray⟩, v2, v3] 28)
  have hz1 : (w.alloc (.cells #[.int .i64 a.k, .int .i64 a.n, .string ⟨a.s.toArray⟩, u1, .int .i64 a.d.k, .int .i64 a.d.n, .string ⟨a.d.s.toArray⟩, u2, u3] 28)).heap.size = w.heap.size + 1 := by simp
  have hL2 := Lies.made (w.alloc (.cells #[.int .i64 a.k, .int .i64 a.n, .string ⟨a.s.toArray⟩, u1, .int .i64 a.d.k, .int .i64 a.d.n, .string ⟨a.d.s.toArray⟩, u2, u3] 28)) 28 #[.int .i64 b.k, .int .i64 b.n, .string ⟨b.s.toArray⟩, v1, .int .i64 b.d.k, .int .i64 b.d.n, .string ⟨b.d.s.toArray⟩, v2, v3]
  rw [hz1] at hL2
  have hba : Below w.heap.size w ((w.alloc (.cells #[.int .i64 a.k, .int .i64 a.n, .string ⟨a.s.toArray⟩, u1, .int .i64 a.d.k, .int .i64 a.d.n, .string ⟨a.d.s.toArray⟩, u2, u3] 28)).alloc (.cells #[.int .i64 b.k, .int .i64 b.n, .string ⟨b.s.toArray⟩, v1, .int .i64 b.d.k, .int .i64 b.d.n, .string ⟨b.d.s.toArray⟩, v2, v3] 28)) := ((Below.refl _ w).alloc (Nat.le_refl _) _).alloc (by simp) _
  obtain ⟨W2, hW2⟩ : ∃ W2, ((w.alloc (.cells #[.int .i64 a.k, .int .i64 a.n, .string ⟨a.s.toArray⟩, u1, .int .i64 a.d.k, .int .i64 a.d.n, .string ⟨a.d.s.toArray⟩, u2, u3] 28)).alloc (.cells #[.int .i64 b.k, .int .i64 b.n, .string ⟨b.s.toArray⟩, v1, .int .i64 b.d.k, .int .i64 b.d.n, .string ⟨b.d.s.toArray⟩, v2, v3] 28)) = W2 := ⟨_, rfl⟩
  rw [hW2] at hL1 hL2 hba
  have hbd := below_drew1 hba
  unfold tmv
  clear h1 h2 b1 b2 hz1 hok1 hok2 hno
  go_enter Tryz.func19, Tryz.ntmps19
  go_wp2_with fail
  refine wp_region_held_drew (S := (fun w' => Lies w' w.heap.size 28 [.int .i64 a.k, .int .i64 a.n, .string ⟨a.s.toArray⟩, u1, .int .i64 a.d.k, .int .i64 a.d.n, .string ⟨a.d.s.toArray⟩, u2, u3] ∧ Lies w' (w.heap.size + 1) 28 [.int .i64 b.k, .int .i64 b.n, .string ⟨b.s.toArray⟩, v1, .int .i64 b.d.k, .int .i64 b.d.n, .string ⟨b.d.s.toArray⟩, v2, v3])) rfl ⟨hL1.drew, hL2.drew⟩ (fun hHeld => ?_)
  refine wpAnyH_take (i := 0) (oi := { dst := some 5, op := Go.Op.load 28 (Go.Operand.tmp 2), type := 28, pos := "term.go:41", after := #[], guard := none }) (v := _) rfl (by kernel_rfl) (by kernel_rfl) (by kernel_rfl) (fun _ _ _ h => h) (Or.inl ⟨by rfl, fun w' hS => load_term w' _ _ _ _ _ _ _ _ _ _ _ _ _ rfl rfl hS.1⟩) (by assumption) ?_
  try simp only [Act.put, List.setIfInBounds_toArray, List.set_cons_zero, List.set_cons_succ]
  refine wpAnyH_ready (rs := [1]) (by kernel_rfl) (by simp) ?_
  refine AllReadyH.cons (o := { dst := some 6, op := Go.Op.call { callee := Go.Callee.value (Go.Operand.func 9), args := #[Go.Operand.tmp 5], argTypes := #[28] }, type := 32, pos := "term.go:41", after := #[{ on := 0, ground := Go.Ground.data }], guard := none }) rfl (fun K hK => ?_) AllReadyH.nil
  rw [if_pos (by rfl)]
  go_simp
  refine (hA.out _ hbd).mono ?_
  rintro e w7 ⟨rfl, hb7⟩
  have R7 := Lib.hid (hbd.trans (Below.mono hb7 hbd.size))
  have hM1 := hHeld.1.below hb7 hHeld.1.lt
  have hM2 := hHeld.2.below hb7 hHeld.2.lt
  clear hb7 hHeld
  refine hK.out _ _ ⟨hM1, hM2⟩ (fun hHeld => ?_)
  clear hK K
  try simp only [Act.put, List.setIfInBounds_toArray, List.set_cons_zero, List.set_cons_succ]
  refine wpAnyH_take (i := 2) (oi := { dst := some 7, op := Go.Op.binOp Go.BinOp.eql 32 (Go.Operand.tmp 6) (Go.Operand.const Go.Value.nilIface) 32, type := 4, pos := "term.go:41", after := #[{ on := 1, ground := Go.Ground.data }], guard := none }) (v := ?_) rfl (by kernel_rfl) (by kernel_rfl) (by kernel_rfl) (fun _ _ _ h => h) (Or.inl ⟨by rfl, ?_⟩) (by assumption) ?_
  rotate_left
  · intro w hSw; clear hSw; go_simp; try with_reducible rfl
  try simp only [Act.put, List.setIfInBounds_toArray, List.set_cons_zero, List.set_cons_succ]
  refine wpAnyH_take (i := 3) (oi := { dst := some 8, op := Go.Op.move (Go.Operand.tmp 7), type := 4, pos := "term.go:41", after := #[{ on := 2, ground := Go.Ground.data }, { on := 1, ground := Go.Ground.chain }], guard := none }) (v := ?_) rfl (by kernel_rfl) (by kernel_rfl) (by kernel_rfl) (fun _ _ _ h => h) (Or.inl ⟨by rfl, ?_⟩) (by assumption) ?_
  rotate_left
  · intro w hSw; clear hSw; go_simp; try with_reducible rfl
  try simp only [Act.put, List.setIfInBounds_toArray, List.set_cons_zero, List.set_cons_succ]
  refine wpAnyH_take (i := 4) (oi := { dst := some 9, op := Go.Op.load 28 (Go.Operand.tmp 3), type := 28, pos := "term.go:41", after := #[{ on := 3, ground := Go.Ground.guard }], guard := some (3, true) }) (v := _) rfl (by kernel_rfl) (by kernel_rfl) (by kernel_rfl) (fun _ _ _ h => h) (Or.inl ⟨by rfl, fun w' hS => load_term w' _ _ _ _ _ _ _ _ _ _ _ _ _ rfl rfl hS.2⟩) (by assumption) ?_
  try simp only [Act.put, List.setIfInBounds_toArray, List.set_cons_zero, List.set_cons_succ]
  refine wpAnyH_ready (rs := [5]) (by kernel_rfl) (by simp) ?_
  refine AllReadyH.cons (o := { dst := some 10, op := Go.Op.call { callee := Go.Callee.value (Go.Operand.func 9), args := #[Go.Operand.tmp 9], argTypes := #[28] }, type := 32, pos := "term.go:41", after := #[{ on := 4, ground := Go.Ground.data }, { on := 3, ground := Go.Ground.chain }, { on := 3, ground := Go.Ground.guard }], guard := some (3, true) }) rfl (fun K hK => ?_) AllReadyH.nil
  rw [if_pos (by rfl)]
  go_simp
  refine (hB.out _ R7.out).mono ?_
  rintro e w9 ⟨rfl, hb9⟩
  have R9 := Lib.hid (R7.out.trans (Below.mono hb9 R7.out.size))
  have hN1 := hHeld.1.below hb9 hHeld.1.lt
  have hN2 := hHeld.2.below hb9 hHeld.2.lt
  clear hb9 hHeld
  refine hK.out _ _ ⟨hN1, hN2⟩ (fun hHeld => ?_)
  clear hK K
  try simp only [Act.put, List.setIfInBounds_toArray, List.set_cons_zero, List.set_cons_succ]
  refine wpAnyH_take (i := 6) (oi := { dst := some 11, op := Go.Op.binOp Go.BinOp.eql 32 (Go.Operand.tmp 10) (Go.Operand.const Go.Value.nilIface) 32, type := 4, pos := "term.go:41", after := #[{ on := 5, ground := Go.Ground.data }, { on := 3, ground := Go.Ground.guard }], guard := some (3, true) }) (v := ?_) rfl (by kernel_rfl) (by kernel_rfl) (by kernel_rfl) (fun _ _ _ h => h) (Or.inl ⟨by rfl, ?_⟩) (by assumption) ?_
  rotate_left
  · intro w hSw; clear hSw; go_simp; try with_reducible rfl
  try simp only [Act.put, List.setIfInBounds_toArray, List.set_cons_zero, List.set_cons_succ]
  refine wpAnyH_take (i := 7) (oi := { dst := some 12, op := Go.Op.pick (Go.Operand.tmp 8) (Go.Operand.tmp 11) (Go.Operand.const (Go.Value.bool false)), type := 4, pos := "term.go:41", after := #[{ on := 3, ground := Go.Ground.data }, { on := 6, ground := Go.Ground.data }], guard := none }) (v := ?_) rfl (by kernel_rfl) (by kernel_rfl) (by kernel_rfl) (fun _ _ _ h => h) (Or.inl ⟨by rfl, ?_⟩) (by assumption) ?_
  rotate_left
  · intro w hSw; clear hSw; go_simp; try with_reducible rfl
  try simp only [Act.put, List.setIfInBounds_toArray, List.set_cons_zero, List.set_cons_succ]
  refine wpAnyH_take (i := 8) (oi := { dst := some 13, op := Go.Op.move (Go.Operand.tmp 12), type := 4, pos := "term.go:41", after := #[{ on := 7, ground := Go.Ground.data }, { on := 5, ground := Go.Ground.chain }], guard := none }) (v := ?_) rfl (by kernel_rfl) (by kernel_rfl) (by kernel_rfl) (fun _ _ _ h => h) (Or.inl ⟨by rfl, ?_⟩) (by assumption) ?_
  rotate_left
  · intro w hSw; clear hSw; go_simp; try with_reducible rfl
  try simp only [Act.put, List.setIfInBounds_toArray, List.set_cons_zero, List.set_cons_succ]
  refine wpAnyH_take (i := 9) (oi := { dst := some 14, op := Go.Op.makeMap 60 none, type := 60, pos := "term.go:41", after := #[{ on := 8, ground := Go.Ground.guard }], guard := some (8, true) }) (v := undef) rfl (by kernel_rfl) (by kernel_rfl) (by kernel_rfl) (fun _ _ _ h => h) (Or.inr ⟨by rfl, rfl⟩) (by assumption) ?_
  try simp only [Act.put, List.setIfInBounds_toArray, List.set_cons_zero, List.set_cons_succ]
  refine wpAnyH_take (i := 10) (oi := { dst := some 15, op := Go.Op.load 28 (Go.Operand.tmp 2), type := 28, pos := "term.go:41", after := #[{ on := 8, ground := Go.Ground.guard }], guard := some (8, true) }) (v := undef) rfl (by kernel_rfl) (by kernel_rfl) (by kernel_rfl) (fun _ _ _ h => h) (Or.inr ⟨by rfl, rfl⟩) (by assumption) ?_
  try simp only [Act.put, List.setIfInBounds_toArray, List.set_cons_zero, List.set_cons_succ]
  refine wpAnyH_take (i := 11) (oi := { dst := some 16, op := Go.Op.call { callee := Go.Callee.value (Go.Operand.func 36), args := #[Go.Operand.tmp 14, Go.Operand.tmp 15], argTypes := #[60, 28] }, type := 28, pos := "term.go:41", after := #[{ on := 9, ground := Go.Ground.data }, { on := 10, ground := Go.Ground.data }, { on := 8, ground := Go.Ground.chain }, { on := 8, ground := Go.Ground.guard }], guard := some (8, true) }) (v := undef) rfl (by kernel_rfl) (by kernel_rfl) (by kernel_rfl) (fun _ _ _ h => h) (Or.inr ⟨by rfl, rfl⟩) (by assumption) ?_
  try simp only [Act.put, List.setIfInBounds_toArray, List.set_cons_zero, List.set_cons_succ]
  refine wpAnyH_take (i := 12) (oi := { dst := some 17, op := Go.Op.makeMap 60 none, type := 60, pos := "term.go:41", after := #[{ on := 8, ground := Go.Ground.guard }], guard := some (8, true) }) (v := undef) rfl (by kernel_rfl) (by kernel_rfl) (by kernel_rfl) (fun _ _ _ h => h) (Or.inr ⟨by rfl, rfl⟩) (by assumption) ?_
  try simp only [Act.put, List.setIfInBounds_toArray, List.set_cons_zero, List.set_cons_succ]
  refine wpAnyH_take (i := 13) (oi := { dst := some 18, op := Go.Op.load 28 (Go.Operand.tmp 3), type := 28, pos := "term.go:41", after := #[{ on := 8, ground := Go.Ground.guard }], guard := some (8, true) }) (v := undef) rfl (by kernel_rfl) (by kernel_rfl) (by kernel_rfl) (fun _ _ _ h => h) (Or.inr ⟨by rfl, rfl⟩) (by assumption) ?_
  try simp only [Act.put, List.setIfInBounds_toArray, List.set_cons_zero, List.set_cons_succ]
  refine wpAnyH_take (i := 14) (oi := { dst := some 19, op := Go.Op.call { callee := Go.Callee.value (Go.Operand.func 36), args := #[Go.Operand.tmp 17, Go.Operand.tmp 18], argTypes := #[60, 28] }, type := 28, pos := "term.go:41", after := #[{ on := 12, ground := Go.Ground.data }, { on := 13, ground := Go.Ground.data }, { on := 11, ground := Go.Ground.chain }, { on := 8, ground := Go.Ground.guard }], guard := some (8, true) }) (v := undef) rfl (by kernel_rfl) (by kernel_rfl) (by kernel_rfl) (fun _ _ _ h => h) (Or.inr ⟨by rfl, rfl⟩) (by assumption) ?_
  try simp only [Act.put, List.setIfInBounds_toArray, List.set_cons_zero, List.set_cons_succ]
  refine wpAnyH_take (i := 15) (oi := { dst := some 20, op := Go.Op.call { callee := Go.Callee.value (Go.Operand.func 42), args := #[Go.Operand.tmp 16, Go.Operand.tmp 19], argTypes := #[28, 28] }, type := 4, pos := "term.go:41", after := #[{ on := 11, ground := Go.Ground.data }, { on := 14, ground := Go.Ground.data }, { on := 14, ground := Go.Ground.chain }, { on := 8, ground := Go.Ground.guard }], guard := some (8, true) }) (v := undef) rfl (by kernel_rfl) (by kernel_rfl) (by kernel_rfl) (fun _ _ _ h => h) (Or.inr ⟨by rfl, rfl⟩) (by assumption) ?_
  try simp only [Act.put, List.setIfInBounds_toArray, List.set_cons_zero, List.set_cons_succ]
  refine wpAnyH_take (i := 16) (oi := { dst := some 21, op := Go.Op.pick (Go.Operand.tmp 13) (Go.Operand.tmp 20) (Go.Operand.const (Go.Value.bool false)), type := 4, pos := "term.go:41", after := #[{ on := 8, ground := Go.Ground.data }, { on := 15, ground := Go.Ground.data }], guard := none }) (v := ?_) rfl (by kernel_rfl) (by kernel_rfl) (by kernel_rfl) (fun _ _ _ h => h) (Or.inl ⟨by rfl, ?_⟩) (by assumption) ?_
  rotate_left
  · intro w hSw; clear hSw; go_simp; try with_reducible rfl
  try simp only [Act.put, List.setIfInBounds_toArray, List.set_cons_zero, List.set_cons_succ]
  refine wpAnyH_take (i := 17) (oi := { dst := some 4, op := Go.Op.assign (Go.Operand.tmp 21), type := 4, pos := "term.go:41", after := #[{ on := 16, ground := Go.Ground.data }, { on := 15, ground := Go.Ground.chain }, { on := 0, ground := Go.Ground.phase }, { on := 1, ground := Go.Ground.phase }, { on := 2, ground := Go.Ground.phase }, { on := 3, ground := Go.Ground.phase }, { on := 4, ground := Go.Ground.phase }, { on := 5, ground := Go.Ground.phase }, { on := 6, ground := Go.Ground.phase }, { on := 7, ground := Go.Ground.phase }, { on := 8, ground := Go.Ground.phase }, { on := 9, ground := Go.Ground.phase }, { on := 10, ground := Go.Ground.phase }, { on := 11, ground := Go.Ground.phase }, { on := 12, ground := Go.Ground.phase }, { on := 13, ground := Go.Ground.phase }, { on := 14, ground := Go.Ground.phase }, { on := 15, ground := Go.Ground.phase }, { on := 16, ground := Go.Ground.phase }], guard := none }) (v := ?_) rfl (by kernel_rfl) (by kernel_rfl) (by kernel_rfl) (fun _ _ _ h => h) (Or.inl ⟨by rfl, ?_⟩) (by assumption) ?_
  rotate_left
  · intro w hSw; clear hSw; go_simp; try with_reducible rfl
  try simp only [Act.put, List.setIfInBounds_toArray, List.set_cons_zero, List.set_cons_succ]
  refine wpAnyH_done (by kernel_rfl) ?_ _
  go_wp2_with fail
  go_ret
  exact ⟨false, rfl, by simp [hno'.out], R9.out⟩
set_option maxRecDepth 100000 in
set_option maxHeartbeats 8000000 in
theorem tsame_both (a b : Tm) (w : World) (u1 u2 u3 v1 v2 v3 : Value) (h1 : TmIn w a u1 u2 u3) (h2 : TmIn w b v1 v2 v3) (b1 : TmBd a) (b2 : TmBd b) (hok1 : TM.okt a = true) (hok2 : TM.okt b = true) :
    Calls Tryz.prog 19 #[tmv a u1 u2 u3, tmv b v1 v2 v3] w (BoolIff (TM.okt a = true ∧ TM.okt b = true ∧ TM.alpha a = TM.alpha b) w) := by
  have hA := Lib.hid (fun (w' : World) (hb : Below w.heap.size w w') => tcheck_any a w' u1 u2 u3 (h1.below hb) b1)
  rw [hok1] at hA
  have hB := Lib.hid (fun (w' : World) (hb : Below w.heap.size w w') => tcheck_any b w' v1 v2 v3 (h2.below hb) b2)
  rw [hok2] at hB
  unfold chv tmv at hA hB
  obtain ⟨ap1, ap2, ap3, ap4, ap5, ap6, ap7⟩ := TM.okt_parts hok1
  have hNa := Lib.hid (fun (w' : World) (q : Nat) (hb : Below w.heap.size w w') (hq : w.heap.size ≤ q) (hI : Im w' q 0 (TM.pl [])) => term_any a w w' q [] [] (a.ps ++ TM.prs a.ks) u1 u2 u3 h1 b1 hb hq hI (fun _ h => h) ap4 ap3 ⟨[], by simp⟩ (by simpa using Nat.le_trans ap7 (by omega)) (by omega))
  have hala : TM.nm1 (a.ps ++ TM.prs a.ks) a = TM.alpha a := rfl
  unfold NumN at hNa
  rw [hala] at hNa
  obtain ⟨bp1, bp2, bp3, bp4, bp5, bp6, bp7⟩ := TM.okt_parts hok2
  have hNb := Lib.hid (fun (w' : World) (q : Nat) (hb : Below w.heap.size w w') (hq : w.heap.size ≤ q) (hI : Im w' q 0 (TM.pl [])) => term_any b w w' q [] [] (b.ps ++ TM.prs b.ks) v1 v2 v3 h2 b2 hb hq hI (fun _ h => h) bp4 bp3 ⟨[], by simp⟩ (by simpa using Nat.le_trans bp7 (by omega)) (by omega))
  have halb : TM.nm1 (b.ps ++ TM.prs b.ks) b = TM.alpha b := rfl
  unfold NumN at hNb
  rw [halb] at hNb
  have hE := Lib.hid (fun (w' : World) (x1 x2 x3 y1 y2 y3 : Value) (hx : TmIn w' (TM.alpha a) x1 x2 x3) (hy : TmIn w' (TM.alpha b) y1 y2 y3) => same_any' (TM.alpha a) (TM.alpha b) w' x1 x2 x3 y1 y2 y3 hx hy)
  unfold tmv at hNa hNb hE
  have hiff : (TM.okt a = true ∧ TM.okt b = true ∧ TM.alpha a = TM.alpha b) ↔ TM.alpha a = TM.alpha b := by simp [hok1, hok2]
  have hiff' := Lib.hid hiff
  have hpl : TM.pl [] = fun _ => 0 := by funext x; simp [TM.pl]
  have hpl' := Lib.hid hpl
  have hmm := @run_makeMap Tryz.prog
  generalize (TM.okt a = true ∧ TM.okt b = true ∧ TM.alpha a = TM.alpha b) = Z at hiff' ⊢
  have hL1 := (Lies.made w 28 #[.int .i64 a.k, .int .i64 a.n, .string ⟨a.s.toArray⟩, u1, .int .i64 a.d.k, .int .i64 a.d.n, .string ⟨a.d.s.toArray⟩, u2, u3]).alloc (.cells #[.int .i64 b.k, .int .i64 b.n, .string ⟨b.s.toArray⟩, v1, .int .i64 b.d.k, .int .i64 b.d.n, .string ⟨b.d.s.toArray⟩, v2, v3] 28)
  have hz1 : (w.alloc (.cells #[.int .i64 a.k, .int .i64 a.n, .string ⟨a.s.toArray⟩, u1, .int .i64 a.d.k, .int .i64 a.d.n, .string ⟨a.d.s.toArray⟩, u2, u3] 28)).heap.size = w.heap.size + 1 := by simp
  have hL2 := Lies.made (w.alloc (.cells #[.int .i64 a.k, .int .i64 a.n, .string ⟨a.s.toArray⟩, u1, .int .i64 a.d.k, .int .i64 a.d.n, .string ⟨a.d.s.toArray⟩, u2, u3] 28)) 28 #[.int .i64 b.k, .int .i64 b.n, .string ⟨b.s.toArray⟩, v1, .int .i64 b.d.k, .int .i64 b.d.n, .string ⟨b.d.s.toArray⟩, v2, v3]
  rw [hz1] at hL2
  have hba : Below w.heap.size w ((w.alloc (.cells #[.int .i64 a.k, .int .i64 a.n, .string ⟨a.s.toArray⟩, u1, .int .i64 a.d.k, .int .i64 a.d.n, .string ⟨a.d.s.toArray⟩, u2, u3] 28)).alloc (.cells #[.int .i64 b.k, .int .i64 b.n, .string ⟨b.s.toArray⟩, v1, .int .i64 b.d.k, .int .i64 b.d.n, .string ⟨b.d.s.toArray⟩, v2, v3] 28)) := ((Below.refl _ w).alloc (Nat.le_refl _) _).alloc (by simp) _
  obtain ⟨W2, hW2⟩ : ∃ W2, ((w.alloc (.cells #[.int .i64 a.k, .int .i64 a.n, .string ⟨a.s.toArray⟩, u1, .int .i64 a.d.k, .int .i64 a.d.n, .string ⟨a.d.s.toArray⟩, u2, u3] 28)).alloc (.cells #[.int .i64 b.k, .int .i64 b.n, .string ⟨b.s.toArray⟩, v1, .int .i64 b.d.k, .int .i64 b.d.n, .string ⟨b.d.s.toArray⟩, v2, v3] 28)) = W2 := ⟨_, rfl⟩
  rw [hW2] at hL1 hL2 hba
  have hbd := below_drew1 hba
  unfold tmv
  clear h1 h2 b1 b2 hz1 hok1 hok2 hiff hpl hala halb ap1 ap2 ap3 ap4 ap5 ap6 ap7 bp1 bp2 bp3 bp4 bp5 bp6 bp7
  go_enter Tryz.func19, Tryz.ntmps19
  go_wp2_with fail
  refine wp_region_held_drew (S := (fun w' => Lies w' w.heap.size 28 [.int .i64 a.k, .int .i64 a.n, .string ⟨a.s.toArray⟩, u1, .int .i64 a.d.k, .int .i64 a.d.n, .string ⟨a.d.s.toArray⟩, u2, u3] ∧ Lies w' (w.heap.size + 1) 28 [.int .i64 b.k, .int .i64 b.n, .string ⟨b.s.toArray⟩, v1, .int .i64 b.d.k, .int .i64 b.d.n, .string ⟨b.d.s.toArray⟩, v2, v3])) rfl ⟨hL1.drew, hL2.drew⟩ (fun hHeld => ?_)
  refine wpAnyH_take (i := 0) (oi := { dst := some 5, op := Go.Op.load 28 (Go.Operand.tmp 2), type := 28, pos := "term.go:41", after := #[], guard := none }) (v := _) rfl (by kernel_rfl) (by kernel_rfl) (by kernel_rfl) (fun _ _ _ h => h) (Or.inl ⟨by rfl, fun w' hS => load_term w' _ _ _ _ _ _ _ _ _ _ _ _ _ rfl rfl hS.1⟩) (by assumption) ?_
  try simp only [Act.put, List.setIfInBounds_toArray, List.set_cons_zero, List.set_cons_succ]
  refine wpAnyH_ready (rs := [1]) (by kernel_rfl) (by simp) ?_
  refine AllReadyH.cons (o := { dst := some 6, op := Go.Op.call { callee := Go.Callee.value (Go.Operand.func 9), args := #[Go.Operand.tmp 5], argTypes := #[28] }, type := 32, pos := "term.go:41", after := #[{ on := 0, ground := Go.Ground.data }], guard := none }) rfl (fun K hK => ?_) AllReadyH.nil
  rw [if_pos (by rfl)]
  go_simp
  refine (hA.out _ hbd).mono ?_
  rintro e w7 ⟨rfl, hb7⟩
  have R7 := Lib.hid (hbd.trans (Below.mono hb7 hbd.size))
  have hM1 := hHeld.1.below hb7 hHeld.1.lt
  have hM2 := hHeld.2.below hb7 hHeld.2.lt
  clear hb7 hHeld
  refine hK.out _ _ ⟨hM1, hM2⟩ (fun hHeld => ?_)
  clear hK K
  try simp only [Act.put, List.setIfInBounds_toArray, List.set_cons_zero, List.set_cons_succ]
  refine wpAnyH_take (i := 2) (oi := { dst := some 7, op := Go.Op.binOp Go.BinOp.eql 32 (Go.Operand.tmp 6) (Go.Operand.const Go.Value.nilIface) 32, type := 4, pos := "term.go:41", after := #[{ on := 1, ground := Go.Ground.data }], guard := none }) (v := ?_) rfl (by kernel_rfl) (by kernel_rfl) (by kernel_rfl) (fun _ _ _ h => h) (Or.inl ⟨by rfl, ?_⟩) (by assumption) ?_
  rotate_left
  · intro w hSw; clear hSw; go_simp; try with_reducible rfl
  try simp only [Act.put, List.setIfInBounds_toArray, List.set_cons_zero, List.set_cons_succ]
  refine wpAnyH_take (i := 3) (oi := { dst := some 8, op := Go.Op.move (Go.Operand.tmp 7), type := 4, pos := "term.go:41", after := #[{ on := 2, ground := Go.Ground.data }, { on := 1, ground := Go.Ground.chain }], guard := none }) (v := ?_) rfl (by kernel_rfl) (by kernel_rfl) (by kernel_rfl) (fun _ _ _ h => h) (Or.inl ⟨by rfl, ?_⟩) (by assumption) ?_
  rotate_left
  · intro w hSw; clear hSw; go_simp; try with_reducible rfl
  try simp only [Act.put, List.setIfInBounds_toArray, List.set_cons_zero, List.set_cons_succ]
  refine wpAnyH_take (i := 4) (oi := { dst := some 9, op := Go.Op.load 28 (Go.Operand.tmp 3), type := 28, pos := "term.go:41", after := #[{ on := 3, ground := Go.Ground.guard }], guard := some (3, true) }) (v := _) rfl (by kernel_rfl) (by kernel_rfl) (by kernel_rfl) (fun _ _ _ h => h) (Or.inl ⟨by rfl, fun w' hS => load_term w' _ _ _ _ _ _ _ _ _ _ _ _ _ rfl rfl hS.2⟩) (by assumption) ?_
  try simp only [Act.put, List.setIfInBounds_toArray, List.set_cons_zero, List.set_cons_succ]
  refine wpAnyH_ready (rs := [5]) (by kernel_rfl) (by simp) ?_
  refine AllReadyH.cons (o := { dst := some 10, op := Go.Op.call { callee := Go.Callee.value (Go.Operand.func 9), args := #[Go.Operand.tmp 9], argTypes := #[28] }, type := 32, pos := "term.go:41", after := #[{ on := 4, ground := Go.Ground.data }, { on := 3, ground := Go.Ground.chain }, { on := 3, ground := Go.Ground.guard }], guard := some (3, true) }) rfl (fun K hK => ?_) AllReadyH.nil
  rw [if_pos (by rfl)]
  go_simp
  refine (hB.out _ R7.out).mono ?_
  rintro e w9 ⟨rfl, hb9⟩
  have R9 := Lib.hid (R7.out.trans (Below.mono hb9 R7.out.size))
  have hN1 := hHeld.1.below hb9 hHeld.1.lt
  have hN2 := hHeld.2.below hb9 hHeld.2.lt
  clear hb9 hHeld
  refine hK.out _ _ ⟨hN1, hN2⟩ (fun hHeld => ?_)
  clear hK K
  try simp only [Act.put, List.setIfInBounds_toArray, List.set_cons_zero, List.set_cons_succ]
  refine wpAnyH_take (i := 6) (oi := { dst := some 11, op := Go.Op.binOp Go.BinOp.eql 32 (Go.Operand.tmp 10) (Go.Operand.const Go.Value.nilIface) 32, type := 4, pos := "term.go:41", after := #[{ on := 5, ground := Go.Ground.data }, { on := 3, ground := Go.Ground.guard }], guard := some (3, true) }) (v := ?_) rfl (by kernel_rfl) (by kernel_rfl) (by kernel_rfl) (fun _ _ _ h => h) (Or.inl ⟨by rfl, ?_⟩) (by assumption) ?_
  rotate_left
  · intro w hSw; clear hSw; go_simp; try with_reducible rfl
  try simp only [Act.put, List.setIfInBounds_toArray, List.set_cons_zero, List.set_cons_succ]
  refine wpAnyH_take (i := 7) (oi := { dst := some 12, op := Go.Op.pick (Go.Operand.tmp 8) (Go.Operand.tmp 11) (Go.Operand.const (Go.Value.bool false)), type := 4, pos := "term.go:41", after := #[{ on := 3, ground := Go.Ground.data }, { on := 6, ground := Go.Ground.data }], guard := none }) (v := ?_) rfl (by kernel_rfl) (by kernel_rfl) (by kernel_rfl) (fun _ _ _ h => h) (Or.inl ⟨by rfl, ?_⟩) (by assumption) ?_
  rotate_left
  · intro w hSw; clear hSw; go_simp; try with_reducible rfl
  try simp only [Act.put, List.setIfInBounds_toArray, List.set_cons_zero, List.set_cons_succ]
  refine wpAnyH_take (i := 8) (oi := { dst := some 13, op := Go.Op.move (Go.Operand.tmp 12), type := 4, pos := "term.go:41", after := #[{ on := 7, ground := Go.Ground.data }, { on := 5, ground := Go.Ground.chain }], guard := none }) (v := ?_) rfl (by kernel_rfl) (by kernel_rfl) (by kernel_rfl) (fun _ _ _ h => h) (Or.inl ⟨by rfl, ?_⟩) (by assumption) ?_
  rotate_left
  · intro w hSw; clear hSw; go_simp; try with_reducible rfl
  try simp only [Act.put, List.setIfInBounds_toArray, List.set_cons_zero, List.set_cons_succ]
  refine wpAnyH_take (i := 10) (oi := { dst := some 15, op := Go.Op.load 28 (Go.Operand.tmp 2), type := 28, pos := "term.go:41", after := #[{ on := 8, ground := Go.Ground.guard }], guard := some (8, true) }) (v := _) rfl (by kernel_rfl) (by kernel_rfl) (by kernel_rfl) (fun _ _ _ h => h) (Or.inl ⟨by rfl, fun w' hS => load_term w' _ _ _ _ _ _ _ _ _ _ _ _ _ rfl rfl hS.1⟩) (by assumption) ?_
  try simp only [Act.put, List.setIfInBounds_toArray, List.set_cons_zero, List.set_cons_succ]
  refine wpAnyH_take (i := 13) (oi := { dst := some 18, op := Go.Op.load 28 (Go.Operand.tmp 3), type := 28, pos := "term.go:41", after := #[{ on := 8, ground := Go.Ground.guard }], guard := some (8, true) }) (v := _) rfl (by kernel_rfl) (by kernel_rfl) (by kernel_rfl) (fun _ _ _ h => h) (Or.inl ⟨by rfl, fun w' hS => load_term w' _ _ _ _ _ _ _ _ _ _ _ _ _ rfl rfl hS.2⟩) (by assumption) ?_
  try simp only [Act.put, List.setIfInBounds_toArray, List.set_cons_zero, List.set_cons_succ]
  have hbA := Lib.hid (R9.out.alloc R9.out.size (.map #[] 0))
  have hsA : (w9.alloc (.map #[] 0)).heap.size = w9.heap.size + 1 := by simp
  have hbB := Lib.hid (hbA.out.alloc (by rw [hsA]; have := R9.out.size; omega) (.map #[] 0))
  have hsz9 := Lib.hid R9.out.size
  have hIA : Im (w9.alloc (.map #[] 0)) w9.heap.size 0 (TM.pl []) := by rw [hpl'.out]; exact Im.made w9
  have hIB1 : Im ((w9.alloc (.map #[] 0)).alloc (.map #[] 0)) w9.heap.size 0 (TM.pl []) := hIA.turns ((Turns.refl (fun _ => False) _).alloc _) (fun h => h)
  have hIB2 : Im ((w9.alloc (.map #[] 0)).alloc (.map #[] 0)) (w9.heap.size + 1) 0 (TM.pl []) := by rw [hpl'.out, ← hsA]; exact Im.made _
  have hIA' := Lib.hid hIA
  have hIB1' := Lib.hid hIB1
  have hIB2' := Lib.hid hIB2
  have hlt9 := Lib.hid hHeld.2.lt
  clear hIA hIB1 hIB2 hsA
  refine wpAnyH_ready (rs := [9, 12]) (by kernel_rfl) (by simp) ?_
  refine AllReadyH.cons (o := { dst := some 14, op := Go.Op.makeMap 60 none, type := 60, pos := "term.go:41", after := #[{ on := 8, ground := Go.Ground.guard }], guard := some (8, true) }) rfl (fun K hK => ?_) ?_
  · skip
    rw [if_pos (by rfl)]
    go_simp
    refine hK.out _ _ ⟨Lies.alloc hHeld.1 _, Lies.alloc hHeld.2 _⟩ (fun hHeld => ?_)
    clear hK K
    try simp only [Act.put, List.setIfInBounds_toArray, List.set_cons_zero, List.set_cons_succ]
    refine wpAnyH_ready (rs := [11, 12]) (by kernel_rfl) (by simp) ?_
    refine AllReadyH.cons (o := { dst := some 16, op := Go.Op.call { callee := Go.Callee.value (Go.Operand.func 36), args := #[Go.Operand.tmp 14, Go.Operand.tmp 15], argTypes := #[60, 28] }, type := 28, pos := "term.go:41", after := #[{ on := 9, ground := Go.Ground.data }, { on := 10, ground := Go.Ground.data }, { on := 8, ground := Go.Ground.chain }, { on := 8, ground := Go.Ground.guard }], guard := some (8, true) }) rfl (fun K hK => ?_) ?_
    · skip
      rw [if_pos (by rfl)]
      go_simp
      refine (hNa.out (w9.alloc (.map #[] 0)) w9.heap.size hbA.out (by have := hsz9.out; omega) hIA'.out).mono ?_
      rintro e w11 ⟨vp6, vk6, rfl, hTo, -, hT5⟩
      have hS6 := Lib.hid hTo
      have hb12 := Lib.hid (below_of_turns hbA.out hT5 (by have := hsz9.out; omega))
      have hP1 := hHeld.1.turns hT5 (by have := hlt9.out; omega)
      have hP2 := hHeld.2.turns hT5 (by have := hlt9.out; omega)
      clear hT5 hTo hHeld
      refine hK.out _ _ ⟨hP1, hP2⟩ (fun hHeld => ?_)
      clear hK K
      try simp only [Act.put, List.setIfInBounds_toArray, List.set_cons_zero, List.set_cons_succ]
      have hHs := Lib.hid hHeld.2.lt
      have hI9 : Im (w11.alloc (.map #[] 0)) w11.heap.size 0 (TM.pl []) := by rw [hpl'.out]; exact Im.made w11
      have hI12 := Lib.hid hI9
      have hb13 := Lib.hid (hb12.out.alloc hb12.out.size (.map #[] 0))
      clear hI9
      refine wpAnyH_ready (rs := [12]) (by kernel_rfl) (by simp) ?_
      refine AllReadyH.cons (o := { dst := some 17, op := Go.Op.makeMap 60 none, type := 60, pos := "term.go:41", after := #[{ on := 8, ground := Go.Ground.guard }], guard := some (8, true) }) rfl (fun K hK => ?_) AllReadyH.nil
      rw [if_pos (by rfl)]
      go_simp
      refine hK.out _ _ ⟨Lies.alloc hHeld.1 _, Lies.alloc hHeld.2 _⟩ (fun hHeld => ?_)
      clear hK K
      try simp only [Act.put, List.setIfInBounds_toArray, List.set_cons_zero, List.set_cons_succ]
      refine wpAnyH_ready (rs := [14]) (by kernel_rfl) (by simp) ?_
      refine AllReadyH.cons (o := { dst := some 19, op := Go.Op.call { callee := Go.Callee.value (Go.Operand.func 36), args := #[Go.Operand.tmp 17, Go.Operand.tmp 18], argTypes := #[60, 28] }, type := 28, pos := "term.go:41", after := #[{ on := 12, ground := Go.Ground.data }, { on := 13, ground := Go.Ground.data }, { on := 11, ground := Go.Ground.chain }, { on := 8, ground := Go.Ground.guard }], guard := some (8, true) }) rfl (fun K hK => ?_) AllReadyH.nil
      rw [if_pos (by rfl)]
      go_simp
      refine (hNb.out (w11.alloc (.map #[] 0)) w11.heap.size hb13.out (by have := hsz9.out; have := hb12.out.size; omega) hI12.out).mono ?_
      rintro e w13 ⟨vp8, vk8, rfl, hTo, -, hT5⟩
      have T8 := ((Turns.refl (fun g => g = w11.heap.size) w11).alloc (.map #[] 0)).then hT5 (fun _ _ h => h)
      have K1 := hS6.out.turns T8 (fun g hg hs he => by omega) (fun g hg hs he => by have := hb12.out.size; omega)
      have hQ1 := hHeld.1.turns hT5 (by have := hb12.out.size; have := hHs.out; omega)
      have hQ2 := hHeld.2.turns hT5 (by have := hHs.out; omega)
      have K2 := Lib.hid (And.intro K1.tmin hTo.tmin)
      have hb14 := Lib.hid (below_of_turns hb13.out hT5 (by have := hsz9.out; have := hb12.out.size; omega))
      clear hT5 hTo K1 hHeld T8
      refine hK.out _ _ ⟨hQ1, hQ2⟩ (fun hHeld => ?_)
      clear hK K
      try simp only [Act.put, List.setIfInBounds_toArray, List.set_cons_zero, List.set_cons_succ]
      refine wpAnyH_ready (rs := [15]) (by kernel_rfl) (by simp) ?_
      refine AllReadyH.cons (o := { dst := some 20, op := Go.Op.call { callee := Go.Callee.value (Go.Operand.func 42), args := #[Go.Operand.tmp 16, Go.Operand.tmp 19], argTypes := #[28, 28] }, type := 4, pos := "term.go:41", after := #[{ on := 11, ground := Go.Ground.data }, { on := 14, ground := Go.Ground.data }, { on := 14, ground := Go.Ground.chain }, { on := 8, ground := Go.Ground.guard }], guard := some (8, true) }) rfl (fun K hK => ?_) AllReadyH.nil
      rw [if_pos (by rfl)]
      go_simp
      refine (hE.out _ _ _ _ _ _ _ K2.out.1 K2.out.2).mono ?_
      rintro e w15 ⟨r, rfl, hr, hb15⟩
      have hr' := Lib.hid hr
      have hb16 := Lib.hid (hb14.out.trans (Below.mono hb15 hb14.out.size))
      have hR1 := hHeld.1.below hb15 hHeld.1.lt
      have hR2 := hHeld.2.below hb15 hHeld.2.lt
      clear hr hb15 hHeld
      refine hK.out _ _ ⟨hR1, hR2⟩ (fun hHeld => ?_)
      clear hK K
      try simp only [Act.put, List.setIfInBounds_toArray, List.set_cons_zero, List.set_cons_succ]
      refine wpAnyH_take (i := 16) (oi := { dst := some 21, op := Go.Op.pick (Go.Operand.tmp 13) (Go.Operand.tmp 20) (Go.Operand.const (Go.Value.bool false)), type := 4, pos := "term.go:41", after := #[{ on := 8, ground := Go.Ground.data }, { on := 15, ground := Go.Ground.data }], guard := none }) (v := ?_) rfl (by kernel_rfl) (by kernel_rfl) (by kernel_rfl) (fun _ _ _ h => h) (Or.inl ⟨by rfl, ?_⟩) (by assumption) ?_
      rotate_left
      · intro w hSw; clear hSw; go_simp; try with_reducible rfl
      try simp only [Act.put, List.setIfInBounds_toArray, List.set_cons_zero, List.set_cons_succ]
      refine wpAnyH_take (i := 17) (oi := { dst := some 4, op := Go.Op.assign (Go.Operand.tmp 21), type := 4, pos := "term.go:41", after := #[{ on := 16, ground := Go.Ground.data }, { on := 15, ground := Go.Ground.chain }, { on := 0, ground := Go.Ground.phase }, { on := 1, ground := Go.Ground.phase }, { on := 2, ground := Go.Ground.phase }, { on := 3, ground := Go.Ground.phase }, { on := 4, ground := Go.Ground.phase }, { on := 5, ground := Go.Ground.phase }, { on := 6, ground := Go.Ground.phase }, { on := 7, ground := Go.Ground.phase }, { on := 8, ground := Go.Ground.phase }, { on := 9, ground := Go.Ground.phase }, { on := 10, ground := Go.Ground.phase }, { on := 11, ground := Go.Ground.phase }, { on := 12, ground := Go.Ground.phase }, { on := 13, ground := Go.Ground.phase }, { on := 14, ground := Go.Ground.phase }, { on := 15, ground := Go.Ground.phase }, { on := 16, ground := Go.Ground.phase }], guard := none }) (v := ?_) rfl (by kernel_rfl) (by kernel_rfl) (by kernel_rfl) (fun _ _ _ h => h) (Or.inl ⟨by rfl, ?_⟩) (by assumption) ?_
      rotate_left
      · intro w hSw; clear hSw; go_simp; try with_reducible rfl
      try simp only [Act.put, List.setIfInBounds_toArray, List.set_cons_zero, List.set_cons_succ]
      refine wpAnyH_done (by kernel_rfl) ?_ _
      go_wp2_with fail
      go_ret
      exact ⟨r, rfl, by rw [hiff'.out]; exact hr'.out, hb16.out⟩
    refine AllReadyH.cons (o := { dst := some 17, op := Go.Op.makeMap 60 none, type := 60, pos := "term.go:41", after := #[{ on := 8, ground := Go.Ground.guard }], guard := some (8, true) }) rfl (fun K hK => ?_) ?_
    · skip
      rw [if_pos (by rfl)]
      go_simp
      refine hK.out _ _ ⟨Lies.alloc hHeld.1 _, Lies.alloc hHeld.2 _⟩ (fun hHeld => ?_)
      clear hK K
      try simp only [Act.put, List.setIfInBounds_toArray, List.set_cons_zero, List.set_cons_succ]
      refine wpAnyH_ready (rs := [11]) (by kernel_rfl) (by simp) ?_
      refine AllReadyH.cons (o := { dst := some 16, op := Go.Op.call { callee := Go.Callee.value (Go.Operand.func 36), args := #[Go.Operand.tmp 14, Go.Operand.tmp 15], argTypes := #[60, 28] }, type := 28, pos := "term.go:41", after := #[{ on := 9, ground := Go.Ground.data }, { on := 10, ground := Go.Ground.data }, { on := 8, ground := Go.Ground.chain }, { on := 8, ground := Go.Ground.guard }], guard := some (8, true) }) rfl (fun K hK => ?_) AllReadyH.nil
      rw [if_pos (by rfl)]
      go_simp
      refine (hNa.out ((w9.alloc (.map #[] 0)).alloc (.map #[] 0)) w9.heap.size hbB.out (by have := hsz9.out; omega) hIB1'.out).mono ?_
      rintro e w11 ⟨vp6, vk6, rfl, hTo, -, hT5⟩
      have hS6 := Lib.hid hTo
      have hb12 := Lib.hid (below_of_turns hbB.out hT5 (by have := hsz9.out; omega))
      have hI12 := Lib.hid (hIB2'.out.turns hT5 (by omega))
      have hP1 := hHeld.1.turns hT5 (by have := hlt9.out; omega)
      have hP2 := hHeld.2.turns hT5 (by have := hlt9.out; omega)
      clear hT5 hTo hHeld
      refine hK.out _ _ ⟨hP1, hP2⟩ (fun hHeld => ?_)
      clear hK K
      try simp only [Act.put, List.setIfInBounds_toArray, List.set_cons_zero, List.set_cons_succ]
      refine wpAnyH_ready (rs := [14]) (by kernel_rfl) (by simp) ?_
      refine AllReadyH.cons (o := { dst := some 19, op := Go.Op.call { callee := Go.Callee.value (Go.Operand.func 36), args := #[Go.Operand.tmp 17, Go.Operand.tmp 18], argTypes := #[60, 28] }, type := 28, pos := "term.go:41", after := #[{ on := 12, ground := Go.Ground.data }, { on := 13, ground := Go.Ground.data }, { on := 11, ground := Go.Ground.chain }, { on := 8, ground := Go.Ground.guard }], guard := some (8, true) }) rfl (fun K hK => ?_) AllReadyH.nil
      rw [if_pos (by rfl)]
      go_simp
      refine (hNb.out w11 (w9.heap.size + 1) hb12.out (by have := hsz9.out; have := hb12.out.size; omega) hI12.out).mono ?_
      rintro e w13 ⟨vp8, vk8, rfl, hTo, -, hT5⟩
      have K1 := hS6.out.turns hT5 (fun g hg hs he => by simp at hs; omega) (fun g hg hs he => by have := hsz9.out; omega)
      have hQ1 := hHeld.1.turns hT5 (by have := hlt9.out; omega)
      have hQ2 := hHeld.2.turns hT5 (by have := hlt9.out; omega)
      have K2 := Lib.hid (And.intro K1.tmin hTo.tmin)
      have hb14 := Lib.hid (below_of_turns hb12.out hT5 (by have := hsz9.out; have := hb12.out.size; omega))
      clear hT5 hTo K1 hHeld
      refine hK.out _ _ ⟨hQ1, hQ2⟩ (fun hHeld => ?_)
      clear hK K
      try simp only [Act.put, List.setIfInBounds_toArray, List.set_cons_zero, List.set_cons_succ]
      refine wpAnyH_ready (rs := [15]) (by kernel_rfl) (by simp) ?_
      refine AllReadyH.cons (o := { dst := some 20, op := Go.Op.call { callee := Go.Callee.value (Go.Operand.func 42), args := #[Go.Operand.tmp 16, Go.Operand.tmp 19], argTypes := #[28, 28] }, type := 4, pos := "term.go:41", after := #[{ on := 11, ground := Go.Ground.data }, { on := 14, ground := Go.Ground.data }, { on := 14, ground := Go.Ground.chain }, { on := 8, ground := Go.Ground.guard }], guard := some (8, true) }) rfl (fun K hK => ?_) AllReadyH.nil
      rw [if_pos (by rfl)]
      go_simp
      refine (hE.out _ _ _ _ _ _ _ K2.out.1 K2.out.2).mono ?_
      rintro e w15 ⟨r, rfl, hr, hb15⟩
      have hr' := Lib.hid hr
      have hb16 := Lib.hid (hb14.out.trans (Below.mono hb15 hb14.out.size))
      have hR1 := hHeld.1.below hb15 hHeld.1.lt
      have hR2 := hHeld.2.below hb15 hHeld.2.lt
      clear hr hb15 hHeld
      refine hK.out _ _ ⟨hR1, hR2⟩ (fun hHeld => ?_)
      clear hK K
      try simp only [Act.put, List.setIfInBounds_toArray, List.set_cons_zero, List.set_cons_succ]
      refine wpAnyH_take (i := 16) (oi := { dst := some 21, op := Go.Op.pick (Go.Operand.tmp 13) (Go.Operand.tmp 20) (Go.Operand.const (Go.Value.bool false)), type := 4, pos := "term.go:41", after := #[{ on := 8, ground := Go.Ground.data }, { on := 15, ground := Go.Ground.data }], guard := none }) (v := ?_) rfl (by kernel_rfl) (by kernel_rfl) (by kernel_rfl) (fun _ _ _ h => h) (Or.inl ⟨by rfl, ?_⟩) (by assumption) ?_
      rotate_left
      · intro w hSw; clear hSw; go_simp; try with_reducible rfl
      try simp only [Act.put, List.setIfInBounds_toArray, List.set_cons_zero, List.set_cons_succ]
      refine wpAnyH_take (i := 17) (oi := { dst := some 4, op := Go.Op.assign (Go.Operand.tmp 21), type := 4, pos := "term.go:41", after := #[{ on := 16, ground := Go.Ground.data }, { on := 15, ground := Go.Ground.chain }, { on := 0, ground := Go.Ground.phase }, { on := 1, ground := Go.Ground.phase }, { on := 2, ground := Go.Ground.phase }, { on := 3, ground := Go.Ground.phase }, { on := 4, ground := Go.Ground.phase }, { on := 5, ground := Go.Ground.phase }, { on := 6, ground := Go.Ground.phase }, { on := 7, ground := Go.Ground.phase }, { on := 8, ground := Go.Ground.phase }, { on := 9, ground := Go.Ground.phase }, { on := 10, ground := Go.Ground.phase }, { on := 11, ground := Go.Ground.phase }, { on := 12, ground := Go.Ground.phase }, { on := 13, ground := Go.Ground.phase }, { on := 14, ground := Go.Ground.phase }, { on := 15, ground := Go.Ground.phase }, { on := 16, ground := Go.Ground.phase }], guard := none }) (v := ?_) rfl (by kernel_rfl) (by kernel_rfl) (by kernel_rfl) (fun _ _ _ h => h) (Or.inl ⟨by rfl, ?_⟩) (by assumption) ?_
      rotate_left
      · intro w hSw; clear hSw; go_simp; try with_reducible rfl
      try simp only [Act.put, List.setIfInBounds_toArray, List.set_cons_zero, List.set_cons_succ]
      refine wpAnyH_done (by kernel_rfl) ?_ _
      go_wp2_with fail
      go_ret
      exact ⟨r, rfl, by rw [hiff'.out]; exact hr'.out, hb16.out⟩
    exact AllReadyH.nil
  refine AllReadyH.cons (o := { dst := some 17, op := Go.Op.makeMap 60 none, type := 60, pos := "term.go:41", after := #[{ on := 8, ground := Go.Ground.guard }], guard := some (8, true) }) rfl (fun K hK => ?_) ?_
  · skip
    rw [if_pos (by rfl)]
    go_simp
    refine hK.out _ _ ⟨Lies.alloc hHeld.1 _, Lies.alloc hHeld.2 _⟩ (fun hHeld => ?_)
    clear hK K
    try simp only [Act.put, List.setIfInBounds_toArray, List.set_cons_zero, List.set_cons_succ]
    refine wpAnyH_ready (rs := [9]) (by kernel_rfl) (by simp) ?_
    refine AllReadyH.cons (o := { dst := some 14, op := Go.Op.makeMap 60 none, type := 60, pos := "term.go:41", after := #[{ on := 8, ground := Go.Ground.guard }], guard := some (8, true) }) rfl (fun K hK => ?_) AllReadyH.nil
    rw [if_pos (by rfl)]
    go_simp
    refine hK.out _ _ ⟨Lies.alloc hHeld.1 _, Lies.alloc hHeld.2 _⟩ (fun hHeld => ?_)
    clear hK K
    try simp only [Act.put, List.setIfInBounds_toArray, List.set_cons_zero, List.set_cons_succ]
    refine wpAnyH_ready (rs := [11]) (by kernel_rfl) (by simp) ?_
    refine AllReadyH.cons (o := { dst := some 16, op := Go.Op.call { callee := Go.Callee.value (Go.Operand.func 36), args := #[Go.Operand.tmp 14, Go.Operand.tmp 15], argTypes := #[60, 28] }, type := 28, pos := "term.go:41", after := #[{ on := 9, ground := Go.Ground.data }, { on := 10, ground := Go.Ground.data }, { on := 8, ground := Go.Ground.chain }, { on := 8, ground := Go.Ground.guard }], guard := some (8, true) }) rfl (fun K hK => ?_) AllReadyH.nil
    rw [if_pos (by rfl)]
    go_simp
    refine (hNa.out ((w9.alloc (.map #[] 0)).alloc (.map #[] 0)) (w9.heap.size + 1) hbB.out (by have := hsz9.out; omega) hIB2'.out).mono ?_
    rintro e w11 ⟨vp6, vk6, rfl, hTo, -, hT5⟩
    have hS6 := Lib.hid hTo
    have hb12 := Lib.hid (below_of_turns hbB.out hT5 (by have := hsz9.out; omega))
    have hI12 := Lib.hid (hIB1'.out.turns hT5 (by omega))
    have hP1 := hHeld.1.turns hT5 (by have := hlt9.out; omega)
    have hP2 := hHeld.2.turns hT5 (by have := hlt9.out; omega)
    clear hT5 hTo hHeld
    refine hK.out _ _ ⟨hP1, hP2⟩ (fun hHeld => ?_)
    clear hK K
    try simp only [Act.put, List.setIfInBounds_toArray, List.set_cons_zero, List.set_cons_succ]
    refine wpAnyH_ready (rs := [14]) (by kernel_rfl) (by simp) ?_
    refine AllReadyH.cons (o := { dst := some 19, op := Go.Op.call { callee := Go.Callee.value (Go.Operand.func 36), args := #[Go.Operand.tmp 17, Go.Operand.tmp 18], argTypes := #[60, 28] }, type := 28, pos := "term.go:41", after := #[{ on := 12, ground := Go.Ground.data }, { on := 13, ground := Go.Ground.data }, { on := 11, ground := Go.Ground.chain }, { on := 8, ground := Go.Ground.guard }], guard := some (8, true) }) rfl (fun K hK => ?_) AllReadyH.nil
    rw [if_pos (by rfl)]
    go_simp
    refine (hNb.out w11 w9.heap.size hb12.out (by have := hsz9.out; have := hb12.out.size; omega) hI12.out).mono ?_
    rintro e w13 ⟨vp8, vk8, rfl, hTo, -, hT5⟩
    have K1 := hS6.out.turns hT5 (fun g hg hs he => by simp at hs; omega) (fun g hg hs he => by have := hsz9.out; omega)
    have hQ1 := hHeld.1.turns hT5 (by have := hlt9.out; omega)
    have hQ2 := hHeld.2.turns hT5 (by have := hlt9.out; omega)
    have K2 := Lib.hid (And.intro K1.tmin hTo.tmin)
    have hb14 := Lib.hid (below_of_turns hb12.out hT5 (by have := hsz9.out; have := hb12.out.size; omega))
    clear hT5 hTo K1 hHeld
    refine hK.out _ _ ⟨hQ1, hQ2⟩ (fun hHeld => ?_)
    clear hK K
    try simp only [Act.put, List.setIfInBounds_toArray, List.set_cons_zero, List.set_cons_succ]
    refine wpAnyH_ready (rs := [15]) (by kernel_rfl) (by simp) ?_
    refine AllReadyH.cons (o := { dst := some 20, op := Go.Op.call { callee := Go.Callee.value (Go.Operand.func 42), args := #[Go.Operand.tmp 16, Go.Operand.tmp 19], argTypes := #[28, 28] }, type := 4, pos := "term.go:41", after := #[{ on := 11, ground := Go.Ground.data }, { on := 14, ground := Go.Ground.data }, { on := 14, ground := Go.Ground.chain }, { on := 8, ground := Go.Ground.guard }], guard := some (8, true) }) rfl (fun K hK => ?_) AllReadyH.nil
    rw [if_pos (by rfl)]
    go_simp
    refine (hE.out _ _ _ _ _ _ _ K2.out.1 K2.out.2).mono ?_
    rintro e w15 ⟨r, rfl, hr, hb15⟩
    have hr' := Lib.hid hr
    have hb16 := Lib.hid (hb14.out.trans (Below.mono hb15 hb14.out.size))
    have hR1 := hHeld.1.below hb15 hHeld.1.lt
    have hR2 := hHeld.2.below hb15 hHeld.2.lt
    clear hr hb15 hHeld
    refine hK.out _ _ ⟨hR1, hR2⟩ (fun hHeld => ?_)
    clear hK K
    try simp only [Act.put, List.setIfInBounds_toArray, List.set_cons_zero, List.set_cons_succ]
    refine wpAnyH_take (i := 16) (oi := { dst := some 21, op := Go.Op.pick (Go.Operand.tmp 13) (Go.Operand.tmp 20) (Go.Operand.const (Go.Value.bool false)), type := 4, pos := "term.go:41", after := #[{ on := 8, ground := Go.Ground.data }, { on := 15, ground := Go.Ground.data }], guard := none }) (v := ?_) rfl (by kernel_rfl) (by kernel_rfl) (by kernel_rfl) (fun _ _ _ h => h) (Or.inl ⟨by rfl, ?_⟩) (by assumption) ?_
    rotate_left
    · intro w hSw; clear hSw; go_simp; try with_reducible rfl
    try simp only [Act.put, List.setIfInBounds_toArray, List.set_cons_zero, List.set_cons_succ]
    refine wpAnyH_take (i := 17) (oi := { dst := some 4, op := Go.Op.assign (Go.Operand.tmp 21), type := 4, pos := "term.go:41", after := #[{ on := 16, ground := Go.Ground.data }, { on := 15, ground := Go.Ground.chain }, { on := 0, ground := Go.Ground.phase }, { on := 1, ground := Go.Ground.phase }, { on := 2, ground := Go.Ground.phase }, { on := 3, ground := Go.Ground.phase }, { on := 4, ground := Go.Ground.phase }, { on := 5, ground := Go.Ground.phase }, { on := 6, ground := Go.Ground.phase }, { on := 7, ground := Go.Ground.phase }, { on := 8, ground := Go.Ground.phase }, { on := 9, ground := Go.Ground.phase }, { on := 10, ground := Go.Ground.phase }, { on := 11, ground := Go.Ground.phase }, { on := 12, ground := Go.Ground.phase }, { on := 13, ground := Go.Ground.phase }, { on := 14, ground := Go.Ground.phase }, { on := 15, ground := Go.Ground.phase }, { on := 16, ground := Go.Ground.phase }], guard := none }) (v := ?_) rfl (by kernel_rfl) (by kernel_rfl) (by kernel_rfl) (fun _ _ _ h => h) (Or.inl ⟨by rfl, ?_⟩) (by assumption) ?_
    rotate_left
    · intro w hSw; clear hSw; go_simp; try with_reducible rfl
    try simp only [Act.put, List.setIfInBounds_toArray, List.set_cons_zero, List.set_cons_succ]
    refine wpAnyH_done (by kernel_rfl) ?_ _
    go_wp2_with fail
    go_ret
    exact ⟨r, rfl, by rw [hiff'.out]; exact hr'.out, hb16.out⟩
  exact AllReadyH.nil
theorem tsame_any (a b : Tm) (w : World) (u1 u2 u3 v1 v2 v3 : Value) (h1 : TmIn w a u1 u2 u3) (h2 : TmIn w b v1 v2 v3) (b1 : TmBd a) (b2 : TmBd b) :
    Calls Tryz.prog 19 #[tmv a u1 u2 u3, tmv b v1 v2 v3] w (BoolIff (TM.okt a = true ∧ TM.okt b = true ∧ TM.alpha a = TM.alpha b) w) := by
  cases e1 : TM.okt a
  · have := tsame_left a b w u1 u2 u3 v1 v2 v3 h1 h2 b1 b2 e1
    rwa [e1] at this
  · cases e2 : TM.okt b
    · have := tsame_right a b w u1 u2 u3 v1 v2 v3 h1 h2 b1 b2 e1 e2
      rwa [e1, e2] at this
    · have := tsame_both a b w u1 u2 u3 v1 v2 v3 h1 h2 b1 b2 e1 e2
      rwa [e1, e2] at this
end Go.Proofs.YtpiekdcbjkgipaaGreatDoor
