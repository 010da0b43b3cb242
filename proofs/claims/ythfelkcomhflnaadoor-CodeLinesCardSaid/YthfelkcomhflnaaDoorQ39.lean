/- Package code: an instruction's line, Text. -/
import Derived.Test.YthfelkcomhflnaaDoorQ38
import Derived.Test.YthfelkcomhflnaaDoorQ28
import Derived.Test.YthfelkcomhflnaaDoorQ3
namespace Go.Proofs.YthfelkcomhflnaaDoor
open Go.ChangeShapes Go.WideShapes Go.ChangeAt Go.RowKit Go.Deep
open CD (Ins)

set_option maxRecDepth 100000 in
set_option maxHeartbeats 8000000 in
theorem line_any (i : Nat) (x : Ins) (u : Value) (n : Nat) (w : World) (h : In w u x.d.is) (hm : CD.may n x = true) (hn : n ≤ 1000000) (hi : i ≤ 1000000) (hT : Tab w) :
    Calls Tryd.prog 25 #[.int .i64 i, insv x u] w (CStr (CD.line i x) w) := by
  obtain ⟨I, iq, rfl⟩ := h.read
  have hM := Lies.made w 44 #[.int .i64 x.op, .int .i64 x.a, .int .i64 x.b, .string ⟨x.s.toArray⟩, .int .i64 x.d.k, .int .i64 x.d.n, .string ⟨x.d.s.toArray⟩, .slice I x.d.is.len iq]
  have hb0 : Below w.heap.size w (w.alloc (.cells #[.int .i64 x.op, .int .i64 x.a, .int .i64 x.b, .string ⟨x.s.toArray⟩, .int .i64 x.d.k, .int .i64 x.d.n, .string ⟨x.d.s.toArray⟩, .slice I x.d.is.len iq] 44)) := (Below.refl _ _).alloc (Nat.le_refl _) _
  have hT0 := hT.on hb0
  have hX := Lib.hid (fun (w' : World) (ht : Tab w') => text_any (i : Int) (by omega) (by omega) w' ht)
  have hW := Lib.hid (fun (w' : World) => word16_any x.op (CD.may_op hm) w')
  have hO := Lib.hid (fun (w' : World) (hb : Below w.heap.size w w') (ht : Tab w') => operands_any x (.slice I x.d.is.len iq) n w' (h.below hb) hm hn ht)
  have hl1 := Lib.itoa_length_le (i : Int) (by omega) (by omega)
  have hl2 := nm_len x.op
  have hl3 := opd_len hm hn
  obtain ⟨X1, hX1, hX1l, hX1s⟩ := cbytes (Lib.itoa (i : Int))
  rw [hX1] at hX
  have s1 : X1.size ≤ 21 := by omega
  have hX1' := Lib.hid hX1l
  unfold insv at hO ⊢
  have y0 := hM.cell 0
  have y1 := hM.cell 1
  have y2 := hM.cell 2
  have y3 := hM.cell 3
  have y4 := hM.cell 4
  have y5 := hM.cell 5
  have y6 := hM.cell 6
  have y7 := hM.cell 7
  have hlt := hM.lt
  simp only [List.getElem?_cons_succ, List.getElem?_cons_zero] at y0 y1 y2 y3 y4 y5 y6 y7
  clear hX1 hX1l hX1s hl1 h hm
  unfold CStr
  go_enter Tryd.func25, Tryd.ntmps25
  go_wp2_with fail
  generalize hW0 : (w.alloc (.cells #[.int .i64 x.op, .int .i64 x.a, .int .i64 x.b, .string ⟨x.s.toArray⟩, .int .i64 x.d.k, .int .i64 x.d.n, .string ⟨x.d.s.toArray⟩, .slice I x.d.is.len iq] 44)) = W0 at *
  refine wp_region_held_drew (S := fun w' => Below W0.heap.size W0 w') rfl (⟨rfl, rfl, rfl, Nat.le_refl _, fun _ _ => rfl⟩) (fun hHeld => ?_)
  refine wpAnyH_take (i := 0) (oi := { dst := some 5, op := Go.Op.move (Go.Operand.tmp 0), type := 3, pos := "text.go:11", after := #[], guard := none }) (v := ?_) rfl (by kernel_rfl) (by kernel_rfl) (by kernel_rfl) (fun _ _ _ h => h) (Or.inl ⟨by rfl, ?_⟩) (by assumption) ?_
  rotate_left
  · intro w hSw; clear hSw; go_simp; try with_reducible rfl
  try simp only [Act.put, List.setIfInBounds_toArray, List.set_cons_zero, List.set_cons_succ]
  refine wpAnyH_take (i := 3) (oi := { dst := some 8, op := Go.Op.fieldAddr 44 (Go.Operand.tmp 3) 0, type := 0, pos := "text.go:11", after := #[], guard := none }) (v := ?_) rfl (by kernel_rfl) (by kernel_rfl) (by kernel_rfl) (fun _ _ _ h => h) (Or.inl ⟨by rfl, ?_⟩) (by assumption) ?_
  rotate_left
  · intro w hSw; clear hSw; go_simp; try with_reducible rfl
  try simp only [Act.put, List.setIfInBounds_toArray, List.set_cons_zero, List.set_cons_succ]
  refine wpAnyH_take (i := 4) (oi := { dst := some 9, op := Go.Op.load 3 (Go.Operand.tmp 8), type := 3, pos := "text.go:11", after := #[{ on := 3, ground := Go.Ground.data }], guard := none }) (v := ?_) rfl (by kernel_rfl) (by kernel_rfl) (by kernel_rfl) (fun _ _ _ h => h) (Or.inl ⟨by rfl, ?_⟩) (by assumption) ?_
  rotate_left
  · intro w7 hS7
    have k0 := (Below.cell hS7 (p := ⟨w.heap.size, 0, none⟩) hlt).trans y0
    clear hS7
    go_simp
    try with_reducible rfl
  try simp only [Act.put, List.setIfInBounds_toArray, List.set_cons_zero, List.set_cons_succ]
  refine wpAnyH_take (i := 7) (oi := { dst := some 12, op := Go.Op.load 44 (Go.Operand.tmp 3), type := 44, pos := "text.go:11", after := #[], guard := none }) (v := ?_) rfl (by kernel_rfl) (by kernel_rfl) (by kernel_rfl) (fun _ _ _ h => h) (Or.inl ⟨by rfl, ?_⟩) (by assumption) ?_
  rotate_left
  · intro w7 hS7
    have k0 := (Below.cell hS7 (p := ⟨w.heap.size, 0, none⟩) hlt).trans y0
    have k1 := (Below.cell hS7 (p := ⟨w.heap.size, 1, none⟩) hlt).trans y1
    have k2 := (Below.cell hS7 (p := ⟨w.heap.size, 2, none⟩) hlt).trans y2
    have k3 := (Below.cell hS7 (p := ⟨w.heap.size, 3, none⟩) hlt).trans y3
    have k4 := (Below.cell hS7 (p := ⟨w.heap.size, 4, none⟩) hlt).trans y4
    have k5 := (Below.cell hS7 (p := ⟨w.heap.size, 5, none⟩) hlt).trans y5
    have k6 := (Below.cell hS7 (p := ⟨w.heap.size, 6, none⟩) hlt).trans y6
    have k7 := (Below.cell hS7 (p := ⟨w.heap.size, 7, none⟩) hlt).trans y7
    clear hS7
    go_simp
    try with_reducible rfl
  try simp only [Act.put, List.setIfInBounds_toArray, List.set_cons_zero, List.set_cons_succ]
  refine wpAnyH_ready (rs := [1]) (by kernel_rfl) (by simp) ?_
  refine AllReadyH.cons (o := { dst := some 6, op := Go.Op.call { callee := Go.Callee.value (Go.Operand.func 33), args := #[Go.Operand.tmp 5], argTypes := #[3] }, type := 9, pos := "text.go:11", after := #[{ on := 0, ground := Go.Ground.data }], guard := none }) rfl (fun K hK => ?_) AllReadyH.nil
  rw [if_pos (by rfl)]
  go_simp
  refine (hX.out _ (hT0.on hHeld)).mono ?_
  rintro e w1 ⟨rfl, hk1⟩
  have hb1 : Below W0.heap.size W0 w1 := hHeld.trans (Below.mono hk1 hHeld.size)
  clear hk1 hHeld
  refine hK.out _ _ hb1 (fun hHeld => ?_)
  clear hK K
  try simp only [Act.put, List.setIfInBounds_toArray, List.set_cons_zero, List.set_cons_succ]
  refine wpAnyH_take (i := 2) (oi := { dst := some 7, op := Go.Op.binOp Go.BinOp.add 9 (Go.Operand.tmp 6) (Go.Operand.const (Go.Value.string { data := #[58, 32] })) 9, type := 9, pos := "text.go:11", after := #[{ on := 1, ground := Go.Ground.data }], guard := none }) (v := ?_) rfl (by kernel_rfl) (by kernel_rfl) (by kernel_rfl) (fun _ _ _ h => h) (Or.inl ⟨by rfl, ?_⟩) (by assumption) ?_
  rotate_left
  · intro w hSw; clear hSw; go_simp; rw [if_neg (by omega)]
  try simp only [Act.put, List.setIfInBounds_toArray, List.set_cons_zero, List.set_cons_succ]
  refine wpAnyH_ready (rs := [5]) (by kernel_rfl) (by simp) ?_
  refine AllReadyH.cons (o := { dst := some 10, op := Go.Op.call { callee := Go.Callee.value (Go.Operand.func 34), args := #[Go.Operand.tmp 9], argTypes := #[3] }, type := 9, pos := "text.go:11", after := #[{ on := 4, ground := Go.Ground.data }, { on := 1, ground := Go.Ground.chain }], guard := none }) rfl (fun K hK => ?_) AllReadyH.nil
  rw [if_pos (by rfl)]
  go_simp
  refine (hW.out _).mono ?_
  rintro e w2 ⟨⟨X2, rfl, hX2⟩, hk2⟩
  have hb2 : Below W0.heap.size W0 w2 := hHeld.trans (Below.mono hk2 hHeld.size)
  have s2 : X2.size ≤ 10 := by rw [csize hX2]; exact hl2
  have hX2' := Lib.hid hX2
  clear hk2 hX2 hHeld
  refine hK.out _ _ hb2 (fun hHeld => ?_)
  clear hK K
  try simp only [Act.put, List.setIfInBounds_toArray, List.set_cons_zero, List.set_cons_succ]
  refine wpAnyH_take (i := 6) (oi := { dst := some 11, op := Go.Op.binOp Go.BinOp.add 9 (Go.Operand.tmp 7) (Go.Operand.tmp 10) 9, type := 9, pos := "text.go:11", after := #[{ on := 2, ground := Go.Ground.data }, { on := 5, ground := Go.Ground.data }], guard := none }) (v := ?_) rfl (by kernel_rfl) (by kernel_rfl) (by kernel_rfl) (fun _ _ _ h => h) (Or.inl ⟨by rfl, ?_⟩) (by assumption) ?_
  rotate_left
  · intro w hSw; clear hSw; go_simp; rw [if_neg (by omega)]
  try simp only [Act.put, List.setIfInBounds_toArray, List.set_cons_zero, List.set_cons_succ]
  refine wpAnyH_ready (rs := [8]) (by kernel_rfl) (by simp) ?_
  refine AllReadyH.cons (o := { dst := some 13, op := Go.Op.call { callee := Go.Callee.value (Go.Operand.func 35), args := #[Go.Operand.tmp 12], argTypes := #[44] }, type := 9, pos := "text.go:11", after := #[{ on := 7, ground := Go.Ground.data }, { on := 5, ground := Go.Ground.chain }], guard := none }) rfl (fun K hK => ?_) AllReadyH.nil
  rw [if_pos (by rfl)]
  go_simp
  refine (hO.out _ (hb0.trans (Below.mono hHeld hb0.size)) (hT0.on hHeld)).mono ?_
  rintro e w3 ⟨⟨X3, rfl, hX3⟩, hk3⟩
  have hb3 : Below W0.heap.size W0 w3 := hHeld.trans (Below.mono hk3 hHeld.size)
  have s3 : X3.size ≤ 5000100 := by rw [csize hX3]; exact hl3
  have hX3' := Lib.hid hX3
  clear hk3 hX3 hHeld
  refine hK.out _ _ hb3 (fun hHeld => ?_)
  clear hK K
  try simp only [Act.put, List.setIfInBounds_toArray, List.set_cons_zero, List.set_cons_succ]
  refine wpAnyH_take (i := 9) (oi := { dst := some 14, op := Go.Op.binOp Go.BinOp.add 9 (Go.Operand.tmp 11) (Go.Operand.tmp 13) 9, type := 9, pos := "text.go:11", after := #[{ on := 6, ground := Go.Ground.data }, { on := 8, ground := Go.Ground.data }], guard := none }) (v := ?_) rfl (by kernel_rfl) (by kernel_rfl) (by kernel_rfl) (fun _ _ _ h => h) (Or.inl ⟨by rfl, ?_⟩) (by assumption) ?_
  rotate_left
  · intro w hSw; clear hSw; go_simp; rw [if_neg (by omega)]
  try simp only [Act.put, List.setIfInBounds_toArray, List.set_cons_zero, List.set_cons_succ]
  refine wpAnyH_take (i := 10) (oi := { dst := some 15, op := Go.Op.binOp Go.BinOp.add 9 (Go.Operand.tmp 14) (Go.Operand.const (Go.Value.string { data := #[10] })) 9, type := 9, pos := "text.go:11", after := #[{ on := 9, ground := Go.Ground.data }], guard := none }) (v := ?_) rfl (by kernel_rfl) (by kernel_rfl) (by kernel_rfl) (fun _ _ _ h => h) (Or.inl ⟨by rfl, ?_⟩) (by assumption) ?_
  rotate_left
  · intro w hSw; clear hSw; go_simp; rw [if_neg (by omega)]
  try simp only [Act.put, List.setIfInBounds_toArray, List.set_cons_zero, List.set_cons_succ]
  refine wpAnyH_take (i := 11) (oi := { dst := some 4, op := Go.Op.assign (Go.Operand.tmp 15), type := 9, pos := "text.go:11", after := #[{ on := 10, ground := Go.Ground.data }, { on := 8, ground := Go.Ground.chain }, { on := 0, ground := Go.Ground.phase }, { on := 1, ground := Go.Ground.phase }, { on := 2, ground := Go.Ground.phase }, { on := 3, ground := Go.Ground.phase }, { on := 4, ground := Go.Ground.phase }, { on := 5, ground := Go.Ground.phase }, { on := 6, ground := Go.Ground.phase }, { on := 7, ground := Go.Ground.phase }, { on := 8, ground := Go.Ground.phase }, { on := 9, ground := Go.Ground.phase }, { on := 10, ground := Go.Ground.phase }], guard := none }) (v := ?_) rfl (by kernel_rfl) (by kernel_rfl) (by kernel_rfl) (fun _ _ _ h => h) (Or.inl ⟨by rfl, ?_⟩) (by assumption) ?_
  rotate_left
  · intro w hSw; clear hSw; go_simp; try with_reducible rfl
  try simp only [Act.put, List.setIfInBounds_toArray, List.set_cons_zero, List.set_cons_succ]
  refine wpAnyH_done (by kernel_rfl) ?_ _
  have hH := Lib.hid hHeld
  clear hHeld
  go_wp2_with fail
  go_ret
  exact ⟨⟨_, rfl, by simp [CD.line, hX1'.out, hX2'.out, hX3'.out]⟩, hb0.trans (Below.mono hH.out hb0.size)⟩
theorem line_len {i n : Nat} {x : Ins} (hm : CD.may n x = true) (hn : n ≤ 1000000) (hi : i ≤ 1000000) : (CD.line i x).length ≤ 5000200 := by
  have hl1 := Lib.itoa_length_le (i : Int) (by omega) (by omega)
  have hl2 := nm_len x.op
  have hl3 := opd_len hm hn
  simp [CD.line]; omega
theorem texts_len {n : Nat} (hn : n ≤ 1000000) : ∀ {l : List Ins} {i : Nat}, (∀ x ∈ l, CD.may n x = true) → i + l.length ≤ 1000000 → (CD.texts i l).length ≤ 5000200 * l.length
  | [], _, _, _ => by simp [CD.texts]
  | x :: r, i, h, hi => by
    have h1 := line_len (i := i) (h x (by simp)) hn (by simp at hi; omega)
    have h2 := texts_len hn (l := r) (i := i + 1) (fun y hy => h y (by simp [hy])) (by simp at hi; omega)
    rw [CD.texts, List.length_append, List.length_cons]
    omega
set_option maxRecDepth 100000 in
set_option maxHeartbeats 8000000 in
theorem text16_any (l : List Ins) (w : World) (v : Value) (h : IIn w v l) (hT : Tab w) : Calls Tryd.prog 13 #[v] w fun e w' =>
    (∃ T : ByteArray, e = .returned (.tuple #[.string T, cer (CD.rgt l)]) ∧ T.data.toList = if CD.rgt l then CD.texts 0 l else []) ∧ Went w w' := by
  have hC := Lib.hid (check16_any l w v h)
  obtain ⟨A, c, rfl⟩ := h.read
  obtain ⟨rb, hrb⟩ : ∃ rb, CD.rgt l = rb := ⟨_, rfl⟩
  rw [hrb] at hC ⊢
  cases rb
  · unfold cer at hC ⊢
    clear h hrb
    go_enter Tryd.func13, Tryd.ntmps13
    go_wp2_with (
      go_at_call 15
      refine hC.out.mono ?_
      rintro e w2 ⟨rfl, hb2⟩)
    go_ret2
    exact ⟨⟨_, rfl, rfl⟩, hb2⟩
  · have hlen := CD.rgt_len hrb
    have hrb' := Lib.hid hrb
    unfold cer at hC ⊢
    obtain ⟨L, hL⟩ : ∃ L, l.length = L := ⟨_, rfl⟩
    rw [hL] at h hlen hC ⊢
    have hL' := Lib.hid hL
    have h' := Lib.hid h
    obtain ⟨i0, hi, hz0, hz1, hz2⟩ := info_parts Tryd.infoByte
    clear hrb hL h
    go_enter Tryd.func13, Tryd.ntmps13
    go_wp2_with (
      go_at_call 15
      refine hC.out.mono ?_
      rintro e w2 ⟨rfl, hb2⟩)
    go_loopw [5, 15] (fun v5 i wr => ∃ j : Nat, j ≤ L ∧ i = .int .i64 j ∧ Hid (OwnB wr w.heap.size v5 (CD.texts 0 (l.take j))) ∧ Below w.heap.size w wr) (fun _ i _ => L - (intOf i).toNat)
    case atStart => exact ⟨0, by omega, rfl, Lib.hid (OwnB.none_ _ _), hb2⟩
    case round =>
      obtain ⟨j, hj, rfl, hI, hb⟩ := hrel
      clear hb2
      by_cases hlt : j < L
      · have hx : l[j]? = some (l[j]'(by rw [hL'.out]; exact hlt)) := List.getElem?_eq_getElem _
        obtain ⟨x, hxe⟩ : ∃ x, l[j]'(by rw [hL'.out]; exact hlt) = x := ⟨_, rfl⟩
        rw [hxe] at hx
        have hmx := CD.rgt_at hrb'.out hx
        rw [hL'.out] at hmx
        obtain ⟨b, o, I, q, rfl, hbl, hd, p0, p1, p2, p3, p4, p5, p6, p7⟩ := (h'.out.below hb).at_ hx
        have hba : Below wr.heap.size wr (wr.alloc (.cells #[.int .i64 x.op, .int .i64 x.a, .int .i64 x.b, .string ⟨x.s.toArray⟩, .int .i64 x.d.k, .int .i64 x.d.n, .string ⟨x.d.s.toArray⟩, .slice I x.d.is.len q] 44)) := (Below.refl _ _).alloc (Nat.le_refl _) _
        have hLn := Lib.hid (line_any j x (.slice I x.d.is.len q) L _ (hd.below hba) hmx (by omega) (by omega) ((hT.on hb).on hba))
        have hll := line_len (i := j) hmx (by omega) (by omega)
        have htl : (CD.texts 0 (l.take j)).length ≤ 5000200 * 8000 := by
          have := texts_len (n := L) (by omega) (l := l.take j) (i := 0) (fun y hy => by have := List.all_eq_true.1 (by have h9 := hrb'.out; simp only [CD.rgt, Bool.and_eq_true] at h9; exact h9.2) y (List.mem_of_mem_take hy); rw [hL'.out] at this; exact this) (by rw [List.length_take]; omega)
          rw [List.length_take] at this
          omega
        have htk := CD.texts_take l 0 j x hx
        rw [Nat.zero_add] at htk
        obtain ⟨n, hn⟩ : ∃ n, (CD.texts 0 (l.take j)).length = n := ⟨_, rfl⟩
        obtain ⟨A5, c5, rfl⟩ := hI.out.read
        have hO : wr.ownsRow w.heap.size 5 1 (.slice A5 n c5) n (Lib.byteCells (CD.texts 0 (l.take j))) := by have := hI.out; unfold OwnB at this; rwa [hn] at this
        rw [hn] at htl ⊢
        have hO' := Lib.hid hO
        have htk' := Lib.hid htk
        have hn' := Lib.hid hn
        unfold insv at hLn
        clear hx hxe hmx hd htk hn hO hI
        go_wp2_with (first
          | (go_at_call 25
             refine hLn.out.mono ?_
             rintro e w3 ⟨⟨X, rfl, hX⟩, hk3⟩
             have hb3 : Below wr.heap.size wr w3 := hba.trans (Below.mono hk3 hba.size)
             have hXs := csize hX
             have hX' := Lib.hid hX
             clear hk3 hX)
          | (at_builtin
             refine Lib.wpList_append_own_string (P := Tryd.prog) w3 rfl _ _ 60 9 rfl w.heap.size 5 i0 Tryd.underlying60 Tryd.underlying9 hi hz0 hz1 hz2 (.slice A5 n c5) n (Lib.byteCells (CD.texts 0 (l.take j))) rfl (own_below hO'.out hb3) X rfl (by unfold maxLen; omega) (by omega) (Nat.le_trans hb.size hb3.size) ?_
             intro v9 w9 hown9 hg9 _
             have hO9 : OwnB w9 w.heap.size v9 (CD.texts 0 (l.take (j + 1))) := by
               unfold OwnB
               have e9 : Lib.strCells X = Lib.byteCells (CD.line j x) := by rw [← hX'.out]; rfl
               rw [htk'.out, List.length_append, hn'.out, ← hXs, Lib.byteCells, List.map_append, ← Lib.byteCells, ← Lib.byteCells, ← e9]
               exact hown9
             obtain ⟨A9, c9, e9⟩ := hO9.read
             obtain ⟨m9, hm9⟩ : ∃ m, (CD.texts 0 (l.take (j + 1))).length = m := ⟨_, rfl⟩
             rw [hm9] at e9
             subst e9
             have hO9' := Lib.hid hO9
             have hlo := World.ownsRow.lt (own_below hO'.out hb3)
             have hb9 : Below w.heap.size w w9 := ((Turns.of_below hb (fun g => w.heap.size ≤ g)).then (((Turns.of_below hb3 (fun g => w.heap.size ≤ g))).grown hg9 (fun k hk _ => (hlo k hk).1)) (fun _ _ h => h)).below (Nat.le_refl _) (fun _ h => h)
             clear hown9 hg9 hO9 hm9 hlo))
        go_roundw
        case rel => exact ⟨j + 1, by omega, by go_num, Lib.hid hO9'.out, hb9⟩
        case measure => simp [intOf]; omega
      · obtain rfl : j = L := by omega
        have htk : l.take j = l := by rw [← hL'.out]; exact List.take_length
        rw [htk] at hI
        have hcv := hI.out.conv
        obtain ⟨X, hX, hXl, -⟩ := cbytes (CD.texts 0 l)
        rw [hX] at hcv
        obtain ⟨A5, c5, rfl⟩ := hI.out.read
        obtain ⟨n, hn⟩ : ∃ n, (CD.texts 0 l).length = n := ⟨_, rfl⟩
        rw [hn] at hcv ⊢
        clear hX hn hI
        go_wp2_with fail
        go_ret2
        exact ⟨⟨_, rfl, hXl⟩, hb⟩
end Go.Proofs.YthfelkcomhflnaaDoor
