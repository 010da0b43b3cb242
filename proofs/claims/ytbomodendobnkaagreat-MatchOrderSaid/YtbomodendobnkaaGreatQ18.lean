/- Package match: the closure that finds in all that an ellipsis takes. -/
import Derived.Test.YtbomodendobnkaaGreatQ17
namespace Go.Proofs.YtbomodendobnkaaGreat
open Go.ChangeShapes Go.WideShapes Go.ChangeAt Go.RowKit Go.Deep
open MM (Bl Bm)

theorem kids_step {F : RM.Dm → Option Bm} {l : RM.Dl} {j : Nat} {x : RM.Dm} {rest : Bl} (hx : l.at_ j = some x) (h : MM.kidsOf F (SM.dr l j) = some rest) :
    ∃ b r', F x = some b ∧ MM.kidsOf F (SM.dr l (j + 1)) = some r' ∧ rest = .cons b.nm b.dp b.d b.ks r' := by
  rw [SM.dr_at l j x hx] at h
  unfold MM.kidsOf at h
  cases hF : F x with
  | none =>
    have : F ⟨x.k, x.n, x.s, x.is⟩ = none := hF
    rw [this] at h; cases h
  | some b =>
    have e : F ⟨x.k, x.n, x.s, x.is⟩ = some b := hF
    rw [e] at h
    simp only [Option.map_eq_some_iff] at h
    obtain ⟨r', h1, h2⟩ := h
    exact ⟨b, r', rfl, h1, h2.symm⟩
theorem kids_done {F : RM.Dm → Option Bm} {l : RM.Dl} {j : Nat} {rest : Bl} (hj : l.len ≤ j) (h : MM.kidsOf F (SM.dr l j) = some rest) : rest = .nil := by
  rw [SM.dr_end l j hj] at h
  simp only [MM.kidsOf, Option.some.injEq] at h
  exact h.symm
set_option maxRecDepth 100000 in
set_option maxHeartbeats 8000000 in
theorem all_call (w : World) (S : Nat → Prop) (fv lv : Value) (fd : RM.Dm → Option Bm) (lk : RM.Dm → RM.Dl) (nm : List UInt8) (dp : Int) (vb lb ib : Nat) (dv : Value) (x : RM.Dm) (v : Value) (b : Bm)
    (hf : FindAt w S fv fd) (hl : LookAt w S lv lk)
    (hvb : Lies w vb 60 [.string ⟨nm.toArray⟩, dv, fv]) (hlb : Lies w lb 141 [lv]) (hib : Lies w ib 3 [.int .i64 dp]) (hv : Cn w v x.is) (hs : ∀ i y, (lk x).at_ i = some y → SM.sz y.is ≤ 5000) (hN5 : (lk x).len ≤ 5000) (hb : MM.allF lk nm dp fd x = some b) :
    Calls Tryz.prog 81 #[dtv x v, .pointer (some ⟨lb, 0, none⟩), .pointer (some ⟨vb, 0, none⟩), .pointer (some ⟨ib, 0, none⟩)] w (FindN b w) := by
  obtain ⟨A, c, rfl⟩ := hv.read
  obtain ⟨ks, hks, rfl⟩ : ∃ ks, MM.kidsOf fd (lk x) = some ks ∧ (⟨nm, dp, MM.d0, ks⟩ : Bm) = b := by
    unfold MM.allF at hb
    simp only [Option.map_eq_some_iff] at hb
    exact hb
  obtain ⟨kf, lf, rfl, ef, hf⟩ := hf
  obtain ⟨kl, ll, rfl, el, hl⟩ := hl
  obtain ⟨hb2, hL1, hL2⟩ := two_boxes w #[.int .i64 x.k, .int .i64 x.n, .string ⟨x.s.toArray⟩, .slice A x.is.len c] z7 24 38
  have hLk := Lib.hid (fun (w' : World) (hb' : Below w.heap.size w w') => hl w' x (.slice A x.is.len c) (Kp.of_below hb') (hv.below hb'))
  have hFd := Lib.hid (fun (w' : World) (hb' : Below w.heap.size w w') y u b (hu : Cn w' u y.is) i (hi : (lk x).at_ i = some y) => hf w' y u b (Kp.of_below hb') hu (hs i y hi))
  unfold dtv at hLk hFd ⊢
  unfold z7 at hb2 hL1 hL2
  obtain ⟨N, hN⟩ : ∃ N, (lk x).len = N := ⟨_, rfl⟩
  obtain ⟨l, hll⟩ : ∃ l, lk x = l := ⟨_, rfl⟩
  rw [hll] at hLk hN hks hFd hN5
  unfold LookN at hLk
  rw [hN] at hLk hN5
  have hN' := Lib.hid hN
  have hks' := Lib.hid hks
  have hG := Lib.hid (fun w => growB_any N (by omega) w)
  have hvb2 := hvb.below hb2 hvb.lt
  have hlb2 := hlb.below hb2 hlb.lt
  have hib2 := hib.below hb2 hib.lt
  have l0 := hlb2.cell 0
  simp only [List.getElem?_cons_zero] at l0
  have hlt := hvb.lt
  clear hv hf hl hs hb hll hN hks hvb hlb hib
  go_enter Tryz.func81, Tryz.ntmps81
  go_upto_region 2 with (
    go_at_fn kl
    refine (hLk.out _ hb2).mono ?_
    rintro e w5 ⟨B5, c5, rfl, hC5, hb5⟩
    have M2 := hL2.below hb5 hL2.lt
    have V5 := hvb2.below hb5 hvb2.lt
    have I5 := hib2.below hb5 hib2.lt
    have hbw : Below w.heap.size w w5 := hb2.trans (hb5.mono hb2.size)
    have hsz : w.heap.size + 1 < w5.heap.size := M2.lt
    clear hb5)
  refine wp_region_held_drew (S := fun w' => Lies w' vb 60 [.string ⟨nm.toArray⟩, dv, .func (.func kf) #[] lf] ∧ Lies w' ib 3 [.int .i64 dp]) rfl ⟨V5.drew, I5.drew⟩ (fun hHeld => ?_)
  refine wpAnyH_take (i := 0) (oi := { dst := some 13, op := Go.Op.fieldAddr 60 (Go.Operand.tmp 2) 0, type := 0, pos := "variable.go:96", after := #[], guard := none }) (v := ?_) rfl (by kernel_rfl) (by kernel_rfl) (by kernel_rfl) (fun _ _ _ h => h) (Or.inl ⟨by rfl, ?_⟩) (by assumption) ?_
  rotate_left
  · intro w hSw; clear hSw; go_simp; try with_reducible rfl
  try simp only [Act.put, List.setIfInBounds_toArray, List.set_cons_zero, List.set_cons_succ]
  refine wpAnyH_take (i := 1) (oi := { dst := some 14, op := Go.Op.load 9 (Go.Operand.tmp 13), type := 9, pos := "variable.go:96", after := #[{ on := 0, ground := Go.Ground.data }], guard := none }) (v := ?_) rfl (by kernel_rfl) (by kernel_rfl) (by kernel_rfl) (fun _ _ _ h => h) (Or.inl ⟨by rfl, ?_⟩) (by assumption) ?_
  rotate_left
  · intro w7 hS7
    have k2 := hS7.1.cell 0
    simp only [List.getElem?_cons_zero] at k2
    clear hS7
    go_simp
    try with_reducible rfl
  try simp only [Act.put, List.setIfInBounds_toArray, List.set_cons_zero, List.set_cons_succ]
  refine wpAnyH_take (i := 2) (oi := { dst := some 15, op := Go.Op.load 3 (Go.Operand.tmp 3), type := 3, pos := "variable.go:96", after := #[], guard := none }) (v := ?_) rfl (by kernel_rfl) (by kernel_rfl) (by kernel_rfl) (fun _ _ _ h => h) (Or.inl ⟨by rfl, ?_⟩) (by assumption) ?_
  rotate_left
  · intro w7 hS7
    have k2 := hS7.2.cell 0
    simp only [List.getElem?_cons_zero] at k2
    clear hS7
    go_simp
    try with_reducible rfl
  try simp only [Act.put, List.setIfInBounds_toArray, List.set_cons_zero, List.set_cons_succ]
  refine wpAnyH_take (i := 3) (oi := { dst := some 16, op := Go.Op.move (Go.Operand.tmp 6), type := 22, pos := "variable.go:96", after := #[], guard := none }) (v := ?_) rfl (by kernel_rfl) (by kernel_rfl) (by kernel_rfl) (fun _ _ _ h => h) (Or.inl ⟨by rfl, ?_⟩) (by assumption) ?_
  rotate_left
  · intro w hSw; clear hSw; go_simp; try with_reducible rfl
  try simp only [Act.put, List.setIfInBounds_toArray, List.set_cons_zero, List.set_cons_succ]
  refine wpAnyH_take (i := 4) (oi := { dst := some 17, op := Go.Op.call { callee := Go.Callee.builtin Go.Builtin.len, args := #[Go.Operand.tmp 16], argTypes := #[22] }, type := 3, pos := "variable.go:96", after := #[{ on := 3, ground := Go.Ground.data }], guard := none }) (v := ?_) rfl (by kernel_rfl) (by kernel_rfl) (by kernel_rfl) (fun _ _ _ h => h) (Or.inl ⟨by rfl, ?_⟩) (by assumption) ?_
  rotate_left
  · intro w hSw; clear hSw; go_simp; try with_reducible rfl
  try simp only [Act.put, List.setIfInBounds_toArray, List.set_cons_zero, List.set_cons_succ]
  refine wpAnyH_ready (rs := [5, 7]) (by kernel_rfl) (by simp) ?_
  refine AllReadyH.cons (o := { dst := some 18, op := Go.Op.call { callee := Go.Callee.value (Go.Operand.func 82), args := #[Go.Operand.const (Go.Value.slice none 0 0), Go.Operand.tmp 17], argTypes := #[29, 3] }, type := 29, pos := "variable.go:96", after := #[{ on := 4, ground := Go.Ground.data }], guard := none }) rfl (fun K hK => ?_) ?_
  · rw [if_pos (by rfl)]
    go_simp
    refine (hG.out _).mono ?_
    rintro e w6 ⟨v6, rfl, ho6, hb6⟩
    obtain ⟨A6, c6, rfl⟩ : ∃ A6 c6, v6 = .slice A6 0 c6 := by obtain ⟨A6, c6, e, _⟩ := own_read ho6; exact ⟨A6, c6, e⟩
    have hKa := Lib.hid (And.intro (hHeld.1.below hb6 hHeld.1.lt) (hHeld.2.below hb6 hHeld.2.lt))
    have hb6' := Lib.hid hb6
    have ho6' := Lib.hid ho6
    clear hHeld ho6 hb6
    refine hK.out _ _ hKa.out (fun hHeld => ?_)
    clear hK K
    try simp only [Act.put, List.setIfInBounds_toArray, List.set_cons_zero, List.set_cons_succ]
    refine wpAnyH_take (i := 6) (oi := { dst := some 19, op := Go.Op.build 38 #[(0, Go.Operand.tmp 14), (1, Go.Operand.tmp 15), (3, Go.Operand.tmp 18)], type := 38, pos := "variable.go:96", after := #[{ on := 1, ground := Go.Ground.data }, { on := 2, ground := Go.Ground.data }, { on := 5, ground := Go.Ground.data }], guard := none }) (v := ?_) rfl (by kernel_rfl) (by kernel_rfl) (by kernel_rfl) (fun _ _ _ h => h) (Or.inl ⟨by rfl, ?_⟩) (by assumption) ?_
    rotate_left
    · intro w hSw; clear hSw; go_simp; try with_reducible rfl
    try simp only [Act.put, List.setIfInBounds_toArray, List.set_cons_zero, List.set_cons_succ]
    refine wpAnyH_ready (rs := [7]) (by kernel_rfl) (by simp) ?_
    refine AllReadyH.cons (o := { dst := some 7, op := Go.Op.alloc 38, type := 0, pos := "variable.go:96", after := #[], guard := none }) rfl (fun K hK => ?_) AllReadyH.nil
    rw [if_pos (by rfl)]
    go_simp
    have hKb := Lib.hid (And.intro (hHeld.1.alloc (.cells #[.string ⟨#[]⟩, .int .i64 0, .int .i64 0, .int .i64 0, .string ⟨#[]⟩, .slice none 0 0, .slice none 0 0] 38)) (hHeld.2.alloc (.cells #[.string ⟨#[]⟩, .int .i64 0, .int .i64 0, .int .i64 0, .string ⟨#[]⟩, .slice none 0 0, .slice none 0 0] 38)))
    clear hHeld
    refine hK.out _ _ hKb.out (fun hHeld => ?_)
    clear hK K
    try simp only [Act.put, List.setIfInBounds_toArray, List.set_cons_zero, List.set_cons_succ]
    refine wpAnyH_ready (rs := [8]) (by kernel_rfl) (by simp) ?_
    refine AllReadyH.cons (o := { dst := none, op := Go.Op.store 38 (Go.Operand.tmp 7) (Go.Operand.tmp 19), type := 0, pos := "variable.go:96", after := #[{ on := 7, ground := Go.Ground.data }, { on := 6, ground := Go.Ground.data }, { on := 5, ground := Go.Ground.chain }, { on := 0, ground := Go.Ground.phase }, { on := 1, ground := Go.Ground.phase }, { on := 2, ground := Go.Ground.phase }, { on := 3, ground := Go.Ground.phase }, { on := 4, ground := Go.Ground.phase }, { on := 5, ground := Go.Ground.phase }, { on := 6, ground := Go.Ground.phase }, { on := 7, ground := Go.Ground.phase }], guard := none }) rfl (fun K hK => ?_) AllReadyH.nil
    rw [if_pos (by rfl)]
    go_simp
    have hKc := Lib.hid (And.intro (hKa.out.1.alloc (.cells #[.string ⟨nm.toArray⟩, .int .i64 dp, .int .i64 0, .int .i64 0, .string ⟨#[]⟩, .slice none 0 0, .slice A6 0 c6] 38)) (hKa.out.2.alloc (.cells #[.string ⟨nm.toArray⟩, .int .i64 dp, .int .i64 0, .int .i64 0, .string ⟨#[]⟩, .slice none 0 0, .slice A6 0 c6] 38)))
    clear hHeld
    refine hK.out _ _ hKc.out (fun hHeld => ?_)
    clear hK K
    try simp only [Act.put, List.setIfInBounds_toArray, List.set_cons_zero, List.set_cons_succ]
    refine wpAnyH_done (by kernel_rfl) ?_ _
    have L7 := Lies.made w6 38 #[.string ⟨nm.toArray⟩, .int .i64 dp, .int .i64 0, .int .i64 0, .string ⟨#[]⟩, .slice none 0 0, .slice A6 0 c6]
    have K7 := (KOwn.of_own (D := fun g => w5.heap.size ≤ g ∧ g ≠ w6.heap.size) ho6'.out (fun g hg hh => by simp at hg; omega)).below (m_box w6 #[.string ⟨nm.toArray⟩, .int .i64 dp, .int .i64 0, .int .i64 0, .string ⟨#[]⟩, .slice none 0 0, .slice A6 0 c6] 38)
    have B7 : Below w5.heap.size w5 (w6.alloc (.cells #[.string ⟨nm.toArray⟩, .int .i64 dp, .int .i64 0, .int .i64 0, .string ⟨#[]⟩, .slice none 0 0, .slice A6 0 c6] 38)) := (below_of_drew hb6'.out).alloc (by have := hb6'.out.size; simpa using this) _
    have hgb : w5.heap.size ≤ w6.heap.size := by have := hb6'.out.size; simpa using this
    clear hKa hKb hKc hHeld hb6' ho6'
    generalize hW7 : w6.alloc (.cells #[.string ⟨nm.toArray⟩, .int .i64 dp, .int .i64 0, .int .i64 0, .string ⟨#[]⟩, .slice none 0 0, .slice A6 0 c6] 38) = W7 at L7 K7 B7 ⊢
    generalize hg7 : w6.heap.size = g7 at L7 K7 hgb ⊢
    clear hW7 hg7
    have V7 := V5.below B7 V5.lt
    have hC7 := hC5.below B7
    have q3 : ∀ o, W7.cell? ⟨g7, o, none⟩ = W7.cell? ⟨g7, o, none⟩ := fun _ => rfl
    clear q3 hC7 V7
    go_wp2_with fail
    go_loopw [22] (fun i wr => ∃ (j : Nat) (A8 : Option Addr) (c8 : Nat) (out : Bl), j ≤ N ∧ i = .int .i64 j ∧ out.len = j ∧ Hid (∃ rest, MM.kidsOf fd (SM.dr l j) = some rest ∧ out.app rest = ks) ∧ KOwn wr (fun g => w5.heap.size ≤ g ∧ g ≠ g7) (.slice A8 j c8) out ∧ Lies wr g7 38 [.string ⟨nm.toArray⟩, .int .i64 dp, .int .i64 0, .int .i64 0, .string ⟨#[]⟩, .slice none 0 0, .slice A8 j c8] ∧ Below w5.heap.size w5 wr) (fun i _ => N - (intOf i).toNat)
    case atStart => exact ⟨0, A6, c6, .nil, Nat.zero_le _, rfl, rfl, Lib.hid ⟨ks, by rw [SM.dr_zero]; exact hks'.out, rfl⟩, K7, L7, B7⟩
    case round =>
      obtain ⟨j, A8, c8, out, hj, rfl, hol, hre, hK, hL7, hb⟩ := hrel
      clear K7 L7 B7
      have hol' := Lib.hid hol
      have hK' := Lib.hid hK
      have hKl := Lib.hid hK.lt
      have hgr := hL7.lt
      have y6 : wr.cell? ⟨g7, 6, none⟩ = some (.slice A8 j c8) := hL7.cell 6
      have hbz : Below w.heap.size w wr := hbw.trans (hb.mono hbw.size)
      by_cases hlt2 : j < N
      · obtain ⟨y, hy⟩ := l.at_some j (by rw [hN'.out]; exact hlt2)
        obtain ⟨rest, hr1, hr2⟩ := hre.out
        obtain ⟨b, r', hb1, hb2', hb3⟩ := kids_step hy hr1
        obtain ⟨eb, eo, B, q, rfl, hbl, p0, p1, p2, p3, hd1⟩ := (hC5.below hb).at_ hy
        have hC := Lib.hid (fun (w' : World) (hb' : Below wr.heap.size wr w') => hFd.out w' (hbz.trans (hb'.mono hbz.size)) y (.slice B y.is.len q) b (hd1.below hb') j hy hb1)
        unfold FindN at hC
        have hnew := Lib.hid (show MM.kidsOf fd (SM.dr l (j + 1)) = some r' ∧ (out.snoc b).app r' = ks from ⟨hb2', by rw [← hr2, hb3, Bl.snoc, Bl.app_app]; rfl⟩)
        have hbx := m_box wr #[.int .i64 y.k, .int .i64 y.n, .string ⟨y.s.toArray⟩, .slice B y.is.len q] 24
        have hMx := Lies.made wr 24 #[.int .i64 y.k, .int .i64 y.n, .string ⟨y.s.toArray⟩, .slice B y.is.len q]
        have y6b : (wr.alloc (.cells #[.int .i64 y.k, .int .i64 y.n, .string ⟨y.s.toArray⟩, .slice B y.is.len q] 24)).cell? ⟨g7, 6, none⟩ = some (.slice A8 j c8) := (hbx.cell (p := ⟨g7, 6, none⟩) hgr).trans y6
        have Vx := (V5.below hb V5.lt).below hbx (V5.below hb V5.lt).lt
        have hsw := hb.size
        clear hy hr1 hr2 hb1 hb2' hb3 hd1 hol hK
        go_wp2_with fail
        refine wp_region_held_drew (S := fun w' => Lies w' vb 60 [.string ⟨nm.toArray⟩, dv, .func (.func kf) #[] lf] ∧ Lies w' wr.heap.size 24 [.int .i64 y.k, .int .i64 y.n, .string ⟨y.s.toArray⟩, .slice B y.is.len q]) rfl ⟨Vx.drew, hMx.drew⟩ (fun hHeld => ?_)
        refine wpAnyH_take (i := 0) (oi := { dst := some 26, op := Go.Op.fieldAddr 38 (Go.Operand.tmp 7) 3, type := 0, pos := "variable.go:98", after := #[], guard := none }) (v := ?_) rfl (by kernel_rfl) (by kernel_rfl) (by kernel_rfl) (fun _ _ _ h => h) (Or.inl ⟨by rfl, ?_⟩) (by assumption) ?_
        rotate_left
        · intro w hSw; clear hSw; go_simp; try with_reducible rfl
        try simp only [Act.put, List.setIfInBounds_toArray, List.set_cons_zero, List.set_cons_succ]
        refine wpAnyH_take (i := 2) (oi := { dst := some 28, op := Go.Op.fieldAddr 60 (Go.Operand.tmp 2) 2, type := 0, pos := "variable.go:98", after := #[], guard := none }) (v := ?_) rfl (by kernel_rfl) (by kernel_rfl) (by kernel_rfl) (fun _ _ _ h => h) (Or.inl ⟨by rfl, ?_⟩) (by assumption) ?_
        rotate_left
        · intro w hSw; clear hSw; go_simp; try with_reducible rfl
        try simp only [Act.put, List.setIfInBounds_toArray, List.set_cons_zero, List.set_cons_succ]
        refine wpAnyH_take (i := 3) (oi := { dst := some 29, op := Go.Op.load 58 (Go.Operand.tmp 28), type := 58, pos := "variable.go:98", after := #[{ on := 2, ground := Go.Ground.data }], guard := none }) (v := ?_) rfl (by kernel_rfl) (by kernel_rfl) (by kernel_rfl) (fun _ _ _ h => h) (Or.inl ⟨by rfl, ?_⟩) (by assumption) ?_
        rotate_left
        · intro w7 hS7
          have k2 := hS7.1.cell 2
          simp only [List.getElem?_cons_succ, List.getElem?_cons_zero] at k2
          clear hS7
          go_simp
          try with_reducible rfl
        try simp only [Act.put, List.setIfInBounds_toArray, List.set_cons_zero, List.set_cons_succ]
        refine wpAnyH_take (i := 4) (oi := { dst := some 30, op := Go.Op.load 24 (Go.Operand.tmp 9), type := 24, pos := "variable.go:98", after := #[], guard := none }) (v := ?_) rfl (by kernel_rfl) (by kernel_rfl) (by kernel_rfl) (fun _ _ _ h => h) (Or.inl ⟨by rfl, ?_⟩) (by assumption) ?_
        rotate_left
        · intro w7 hS7
          have k0 := hS7.2.cell 0
          have k1 := hS7.2.cell 1
          have k2 := hS7.2.cell 2
          have k3 := hS7.2.cell 3
          simp only [List.getElem?_cons_succ, List.getElem?_cons_zero] at k0 k1 k2 k3
          clear hS7
          go_simp
          try with_reducible rfl
        try simp only [Act.put, List.setIfInBounds_toArray, List.set_cons_zero, List.set_cons_succ]
        refine wpAnyH_ready (rs := [1, 5]) (by kernel_rfl) (by simp) ?_
        refine AllReadyH.cons (o := { dst := some 27, op := Go.Op.load 29 (Go.Operand.tmp 26), type := 29, pos := "variable.go:98", after := #[{ on := 0, ground := Go.Ground.data }], guard := none }) rfl (fun K hK => ?_) ?_
        · rw [if_pos (by rfl)]
          go_simp
          refine hK.out _ _ hHeld (fun hHeld => ?_)
          clear hK K
          try simp only [Act.put, List.setIfInBounds_toArray, List.set_cons_zero, List.set_cons_succ]
          refine wpAnyH_ready (rs := [5]) (by kernel_rfl) (by simp) ?_
          refine AllReadyH.cons (o := { dst := some 31, op := Go.Op.call { callee := Go.Callee.value (Go.Operand.tmp 29), args := #[Go.Operand.tmp 30], argTypes := #[24] }, type := 38, pos := "variable.go:98", after := #[{ on := 3, ground := Go.Ground.data }, { on := 4, ground := Go.Ground.data }], guard := none }) rfl (fun K hK => ?_) AllReadyH.nil
          rw [if_pos (by rfl)]
          go_simp
          refine (hC.out _ (below_drewN hbx 1)).mono ?_
          rintro e w3 ⟨iv, kv, rfl, hbm, hb3⟩
          obtain ⟨I3, i3, rfl⟩ := hbm.d.in_.read
          obtain ⟨K3, k3, rfl⟩ := hbm.k.read
          unfold bmv
          have hbw3 : Below wr.heap.size wr w3 := hbx.trans (below_of_drew (hb3.mono (by simp)))
          have hs4 : wr.heap.size < w3.heap.size := by have := hb3.size; simp at this; omega
          have z3 : w3.cell? ⟨g7, 6, none⟩ = some (.slice A8 j c8) := (hbw3.cell (p := ⟨g7, 6, none⟩) hgr).trans y6
          have z3a : (w3.alloc (.cells #[.string ⟨b.nm.toArray⟩, .int .i64 b.dp, .int .i64 b.d.k, .int .i64 b.d.n, .string ⟨b.d.s.toArray⟩, .slice I3 b.d.is.len i3, .slice K3 b.ks.len k3] 38)).cell? ⟨g7, 6, none⟩ = some (.slice A8 j c8) := (((Below.refl _ w3).alloc (Nat.le_refl _) _).cell (p := ⟨g7, 6, none⟩) (by show g7 < w3.heap.size; omega)).trans z3
          have hbm' := Lib.hid hbm
          have hK3 := Lib.hid (And.intro (hHeld.1.below hb3 hHeld.1.lt) (hHeld.2.below hb3 hHeld.2.lt))
          clear hbm hb3 hHeld
          refine hK.out _ _ hK3.out (fun hHeld => ?_)
          clear hK K
          try simp only [Act.put, List.setIfInBounds_toArray, List.set_cons_zero, List.set_cons_succ]
          refine wpAnyH_ready (rs := [6]) (by kernel_rfl) (by simp) ?_
          refine AllReadyH.cons (o := { dst := some 32, op := Go.Op.buildSlice 29 1 #[(0, Go.Operand.tmp 31)], type := 29, pos := "variable.go:98", after := #[{ on := 5, ground := Go.Ground.data }], guard := none }) rfl (fun K hK => ?_) AllReadyH.nil
          rw [if_pos (by rfl)]
          go_simp
          have hK4 := Lib.hid (And.intro (hHeld.1.alloc (.cells #[.string ⟨b.nm.toArray⟩, .int .i64 b.dp, .int .i64 b.d.k, .int .i64 b.d.n, .string ⟨b.d.s.toArray⟩, .slice I3 b.d.is.len i3, .slice K3 b.ks.len k3] 38)) (hHeld.2.alloc (.cells #[.string ⟨b.nm.toArray⟩, .int .i64 b.dp, .int .i64 b.d.k, .int .i64 b.d.n, .string ⟨b.d.s.toArray⟩, .slice I3 b.d.is.len i3, .slice K3 b.ks.len k3] 38)))
          clear hHeld
          refine hK.out _ _ hK4.out (fun hHeld => ?_)
          clear hK K
          try simp only [Act.put, List.setIfInBounds_toArray, List.set_cons_zero, List.set_cons_succ]
          refine wpAnyH_ready (rs := [7]) (by kernel_rfl) (by simp) ?_
          refine AllReadyH.cons (o := { dst := some 33, op := Go.Op.call { callee := Go.Callee.builtin Go.Builtin.append, args := #[Go.Operand.tmp 27, Go.Operand.tmp 32], argTypes := #[29, 29] }, type := 29, pos := "variable.go:98", after := #[{ on := 1, ground := Go.Ground.data }, { on := 6, ground := Go.Ground.data }, { on := 5, ground := Go.Ground.chain }], guard := none }) rfl (fun K hK => ?_) AllReadyH.nil
          rw [if_pos (by rfl)]
          obtain ⟨cs, r1, r2, r3⟩ := kown_push hol'.out (hK'.out.below hbw3) hbm'.out (fun g _ hg => by simp at hg; exact ⟨⟨by omega, by omega⟩, fun hh => by have := (hKl.out _ hh).2; omega⟩) (show w5.heap.size ≤ w3.heap.size + 1 ∧ w3.heap.size + 1 ≠ g7 by omega)
          unfold bcells at r1 r2 r3
          have r3' := Lib.hid r3
          clear r3
          refine wp_append_row (v := .slice A8 j c8) (x := .slice (some ⟨w3.heap.size, 0, none⟩) 1 1) (.agg #[.string ⟨#[]⟩, .int .i64 0, .int .i64 0, .int .i64 0, .string ⟨#[]⟩, .slice none 0 0, .slice none 0 0]) 104 Tryz.infoBound rfl (by decide) _ _ 29 rfl Tryz.underlying29 rfl rfl r1 (own_one (e := 38) (sz := 7) (B := 0) w3 #[.string ⟨b.nm.toArray⟩, .int .i64 b.dp, .int .i64 b.d.k, .int .i64 b.d.n, .string ⟨b.d.s.toArray⟩, .slice I3 b.d.is.len i3, .slice K3 b.ks.len k3] rfl (Nat.zero_le _)) r2 (by omega) (by omega) (by simp) ?_
          intro v9 w9 hown9 hg9 hat9
          have hR9 := Lib.hid (r3'.out v9 w9 hown9 hg9 hat9)
          have T1 := Turns.appendedS hg9
          have n8 : ∀ h, (Value.slice A8 j c8).ownBlock = some h → w5.heap.size ≤ h ∧ h ≠ g7 ∧ h < wr.heap.size := fun h hh => ⟨(hKl.out h hh).1.1, (hKl.out h hh).1.2, (hKl.out h hh).2⟩
          have n9 : vb < w5.heap.size := V5.lt
          have hK5 := Lib.hid (And.intro (hHeld.1.turns T1 (fun hh => by have := n8 _ hh; omega)) (hHeld.2.turns T1 (fun hh => by have := n8 _ hh; omega)))
          obtain ⟨A9, c9, rfl⟩ : ∃ A9 c9, v9 = .slice A9 (j + 1) c9 := by obtain ⟨A9, c9, e, _⟩ := own_read hown9; exact ⟨A9, c9, e⟩
          have L9 := Lib.hid (((hL7.below hbw3 hL7.lt).alloc (.cells #[.string ⟨b.nm.toArray⟩, .int .i64 b.dp, .int .i64 b.d.k, .int .i64 b.d.n, .string ⟨b.d.s.toArray⟩, .slice I3 b.d.is.len i3, .slice K3 b.ks.len k3] 38)).turns T1 (fun hh => (n8 _ hh).2.1 rfl))
          have z9 : w9.cell? ⟨g7, 6, none⟩ = some (.slice A8 j c8) := L9.out.cell 6
          have f9 : w9.frozen? ⟨g7, 6, none⟩ = false := L9.out.free 6
          have hb9 := Lib.hid (show Below w5.heap.size w5 w9 from (((Turns.of_below (hb.trans (hbw3.mono hb.size)) (fun _ => False)).alloc _).then T1 (fun k hk hh => by have := n8 _ hh; omega)).below (Nat.le_refl _) (fun _ h => h.elim))
          clear hown9 hg9 hat9 T1 hHeld r1 r2 r3' n8
          refine hK.out _ _ hK5.out (fun hHeld => ?_)
          clear hK K
          try simp only [Act.put, List.setIfInBounds_toArray, List.set_cons_zero, List.set_cons_succ]
          refine wpAnyH_take (i := 8) (oi := { dst := some 34, op := Go.Op.fieldAddr 38 (Go.Operand.tmp 7) 3, type := 0, pos := "variable.go:98", after := #[{ on := 0, ground := Go.Ground.phase }, { on := 1, ground := Go.Ground.phase }, { on := 2, ground := Go.Ground.phase }, { on := 3, ground := Go.Ground.phase }, { on := 4, ground := Go.Ground.phase }, { on := 5, ground := Go.Ground.phase }, { on := 6, ground := Go.Ground.phase }, { on := 7, ground := Go.Ground.phase }], guard := none }) (v := ?_) rfl (by kernel_rfl) (by kernel_rfl) (by kernel_rfl) (fun _ _ _ h => h) (Or.inl ⟨by rfl, ?_⟩) (by assumption) ?_
          rotate_left
          · intro w hSw; clear hSw; go_simp; try with_reducible rfl
          try simp only [Act.put, List.setIfInBounds_toArray, List.set_cons_zero, List.set_cons_succ]
          refine wpAnyH_ready (rs := [9]) (by kernel_rfl) (by simp) ?_
          refine AllReadyH.cons (o := { dst := none, op := Go.Op.store 29 (Go.Operand.tmp 34) (Go.Operand.tmp 33), type := 0, pos := "variable.go:98", after := #[{ on := 8, ground := Go.Ground.data }, { on := 7, ground := Go.Ground.data }, { on := 7, ground := Go.Ground.chain }, { on := 0, ground := Go.Ground.phase }, { on := 1, ground := Go.Ground.phase }, { on := 2, ground := Go.Ground.phase }, { on := 3, ground := Go.Ground.phase }, { on := 4, ground := Go.Ground.phase }, { on := 5, ground := Go.Ground.phase }, { on := 6, ground := Go.Ground.phase }, { on := 7, ground := Go.Ground.phase }], guard := none }) rfl (fun K hK => ?_) AllReadyH.nil
          rw [if_pos (by rfl)]
          go_simp
          have hK6 := Lib.hid (And.intro (hHeld.1.far (p := ⟨g7, 6, none⟩) (by show ¬ vb = g7; omega) (.slice A9 (j + 1) c9)) (hHeld.2.far (p := ⟨g7, 6, none⟩) (by show ¬ wr.heap.size = g7; omega) (.slice A9 (j + 1) c9)))
          clear hHeld
          refine hK.out _ _ hK6.out (fun hHeld => ?_)
          clear hK K
          try simp only [Act.put, List.setIfInBounds_toArray, List.set_cons_zero, List.set_cons_succ]
          refine wpAnyH_done (by kernel_rfl) ?_ _
          go_wp2_with fail
          go_roundw
          case rel => exact ⟨j + 1, A9, c9, out.snoc b, by omega, by go_num, by rw [Bl.len_snoc]; have := hol'.out; omega, Lib.hid ⟨r', hnew.out⟩, hR9.out.turns ((Turns.refl (fun k => k = g7) w9).setCell (p := ⟨g7, 6, none⟩) (fun _ => rfl) _) (fun g _ hs hh => hs.2 hh), L9.out.stored 6 _, hb9.out.setCell (p := ⟨g7, 6, none⟩) hgb _⟩
          case measure => simp [intOf]; omega
        refine AllReadyH.cons (o := { dst := some 31, op := Go.Op.call { callee := Go.Callee.value (Go.Operand.tmp 29), args := #[Go.Operand.tmp 30], argTypes := #[24] }, type := 38, pos := "variable.go:98", after := #[{ on := 3, ground := Go.Ground.data }, { on := 4, ground := Go.Ground.data }], guard := none }) rfl (fun K hK => ?_) AllReadyH.nil
        · rw [if_pos (by rfl)]
          go_simp
          refine (hC.out _ (below_drewN hbx 1)).mono ?_
          rintro e w3 ⟨iv, kv, rfl, hbm, hb3⟩
          obtain ⟨I3, i3, rfl⟩ := hbm.d.in_.read
          obtain ⟨K3, k3, rfl⟩ := hbm.k.read
          unfold bmv
          have hbw3 : Below wr.heap.size wr w3 := hbx.trans (below_of_drew (hb3.mono (by simp)))
          have hs4 : wr.heap.size < w3.heap.size := by have := hb3.size; simp at this; omega
          have z3 : w3.cell? ⟨g7, 6, none⟩ = some (.slice A8 j c8) := (hbw3.cell (p := ⟨g7, 6, none⟩) hgr).trans y6
          have z3a : (w3.alloc (.cells #[.string ⟨b.nm.toArray⟩, .int .i64 b.dp, .int .i64 b.d.k, .int .i64 b.d.n, .string ⟨b.d.s.toArray⟩, .slice I3 b.d.is.len i3, .slice K3 b.ks.len k3] 38)).cell? ⟨g7, 6, none⟩ = some (.slice A8 j c8) := (((Below.refl _ w3).alloc (Nat.le_refl _) _).cell (p := ⟨g7, 6, none⟩) (by show g7 < w3.heap.size; omega)).trans z3
          have hbm' := Lib.hid hbm
          have hK3 := Lib.hid (And.intro (hHeld.1.below hb3 hHeld.1.lt) (hHeld.2.below hb3 hHeld.2.lt))
          clear hbm hb3 hHeld
          refine hK.out _ _ hK3.out (fun hHeld => ?_)
          clear hK K
          try simp only [Act.put, List.setIfInBounds_toArray, List.set_cons_zero, List.set_cons_succ]
          refine wpAnyH_ready (rs := [1, 6]) (by kernel_rfl) (by simp) ?_
          refine AllReadyH.cons (o := { dst := some 27, op := Go.Op.load 29 (Go.Operand.tmp 26), type := 29, pos := "variable.go:98", after := #[{ on := 0, ground := Go.Ground.data }], guard := none }) rfl (fun K hK => ?_) ?_
          · rw [if_pos (by rfl)]
            go_simp
            refine hK.out _ _ hHeld (fun hHeld => ?_)
            clear hK K
            try simp only [Act.put, List.setIfInBounds_toArray, List.set_cons_zero, List.set_cons_succ]
            refine wpAnyH_ready (rs := [6]) (by kernel_rfl) (by simp) ?_
            refine AllReadyH.cons (o := { dst := some 32, op := Go.Op.buildSlice 29 1 #[(0, Go.Operand.tmp 31)], type := 29, pos := "variable.go:98", after := #[{ on := 5, ground := Go.Ground.data }], guard := none }) rfl (fun K hK => ?_) AllReadyH.nil
            rw [if_pos (by rfl)]
            go_simp
            have hK4 := Lib.hid (And.intro (hHeld.1.alloc (.cells #[.string ⟨b.nm.toArray⟩, .int .i64 b.dp, .int .i64 b.d.k, .int .i64 b.d.n, .string ⟨b.d.s.toArray⟩, .slice I3 b.d.is.len i3, .slice K3 b.ks.len k3] 38)) (hHeld.2.alloc (.cells #[.string ⟨b.nm.toArray⟩, .int .i64 b.dp, .int .i64 b.d.k, .int .i64 b.d.n, .string ⟨b.d.s.toArray⟩, .slice I3 b.d.is.len i3, .slice K3 b.ks.len k3] 38)))
            clear hHeld
            refine hK.out _ _ hK4.out (fun hHeld => ?_)
            clear hK K
            try simp only [Act.put, List.setIfInBounds_toArray, List.set_cons_zero, List.set_cons_succ]
            refine wpAnyH_ready (rs := [7]) (by kernel_rfl) (by simp) ?_
            refine AllReadyH.cons (o := { dst := some 33, op := Go.Op.call { callee := Go.Callee.builtin Go.Builtin.append, args := #[Go.Operand.tmp 27, Go.Operand.tmp 32], argTypes := #[29, 29] }, type := 29, pos := "variable.go:98", after := #[{ on := 1, ground := Go.Ground.data }, { on := 6, ground := Go.Ground.data }, { on := 5, ground := Go.Ground.chain }], guard := none }) rfl (fun K hK => ?_) AllReadyH.nil
            rw [if_pos (by rfl)]
            obtain ⟨cs, r1, r2, r3⟩ := kown_push hol'.out (hK'.out.below hbw3) hbm'.out (fun g _ hg => by simp at hg; exact ⟨⟨by omega, by omega⟩, fun hh => by have := (hKl.out _ hh).2; omega⟩) (show w5.heap.size ≤ w3.heap.size + 1 ∧ w3.heap.size + 1 ≠ g7 by omega)
            unfold bcells at r1 r2 r3
            have r3' := Lib.hid r3
            clear r3
            refine wp_append_row (v := .slice A8 j c8) (x := .slice (some ⟨w3.heap.size, 0, none⟩) 1 1) (.agg #[.string ⟨#[]⟩, .int .i64 0, .int .i64 0, .int .i64 0, .string ⟨#[]⟩, .slice none 0 0, .slice none 0 0]) 104 Tryz.infoBound rfl (by decide) _ _ 29 rfl Tryz.underlying29 rfl rfl r1 (own_one (e := 38) (sz := 7) (B := 0) w3 #[.string ⟨b.nm.toArray⟩, .int .i64 b.dp, .int .i64 b.d.k, .int .i64 b.d.n, .string ⟨b.d.s.toArray⟩, .slice I3 b.d.is.len i3, .slice K3 b.ks.len k3] rfl (Nat.zero_le _)) r2 (by omega) (by omega) (by simp) ?_
            intro v9 w9 hown9 hg9 hat9
            have hR9 := Lib.hid (r3'.out v9 w9 hown9 hg9 hat9)
            have T1 := Turns.appendedS hg9
            have n8 : ∀ h, (Value.slice A8 j c8).ownBlock = some h → w5.heap.size ≤ h ∧ h ≠ g7 ∧ h < wr.heap.size := fun h hh => ⟨(hKl.out h hh).1.1, (hKl.out h hh).1.2, (hKl.out h hh).2⟩
            have n9 : vb < w5.heap.size := V5.lt
            have hK5 := Lib.hid (And.intro (hHeld.1.turns T1 (fun hh => by have := n8 _ hh; omega)) (hHeld.2.turns T1 (fun hh => by have := n8 _ hh; omega)))
            obtain ⟨A9, c9, rfl⟩ : ∃ A9 c9, v9 = .slice A9 (j + 1) c9 := by obtain ⟨A9, c9, e, _⟩ := own_read hown9; exact ⟨A9, c9, e⟩
            have L9 := Lib.hid (((hL7.below hbw3 hL7.lt).alloc (.cells #[.string ⟨b.nm.toArray⟩, .int .i64 b.dp, .int .i64 b.d.k, .int .i64 b.d.n, .string ⟨b.d.s.toArray⟩, .slice I3 b.d.is.len i3, .slice K3 b.ks.len k3] 38)).turns T1 (fun hh => (n8 _ hh).2.1 rfl))
            have z9 : w9.cell? ⟨g7, 6, none⟩ = some (.slice A8 j c8) := L9.out.cell 6
            have f9 : w9.frozen? ⟨g7, 6, none⟩ = false := L9.out.free 6
            have hb9 := Lib.hid (show Below w5.heap.size w5 w9 from (((Turns.of_below (hb.trans (hbw3.mono hb.size)) (fun _ => False)).alloc _).then T1 (fun k hk hh => by have := n8 _ hh; omega)).below (Nat.le_refl _) (fun _ h => h.elim))
            clear hown9 hg9 hat9 T1 hHeld r1 r2 r3' n8
            refine hK.out _ _ hK5.out (fun hHeld => ?_)
            clear hK K
            try simp only [Act.put, List.setIfInBounds_toArray, List.set_cons_zero, List.set_cons_succ]
            refine wpAnyH_take (i := 8) (oi := { dst := some 34, op := Go.Op.fieldAddr 38 (Go.Operand.tmp 7) 3, type := 0, pos := "variable.go:98", after := #[{ on := 0, ground := Go.Ground.phase }, { on := 1, ground := Go.Ground.phase }, { on := 2, ground := Go.Ground.phase }, { on := 3, ground := Go.Ground.phase }, { on := 4, ground := Go.Ground.phase }, { on := 5, ground := Go.Ground.phase }, { on := 6, ground := Go.Ground.phase }, { on := 7, ground := Go.Ground.phase }], guard := none }) (v := ?_) rfl (by kernel_rfl) (by kernel_rfl) (by kernel_rfl) (fun _ _ _ h => h) (Or.inl ⟨by rfl, ?_⟩) (by assumption) ?_
            rotate_left
            · intro w hSw; clear hSw; go_simp; try with_reducible rfl
            try simp only [Act.put, List.setIfInBounds_toArray, List.set_cons_zero, List.set_cons_succ]
            refine wpAnyH_ready (rs := [9]) (by kernel_rfl) (by simp) ?_
            refine AllReadyH.cons (o := { dst := none, op := Go.Op.store 29 (Go.Operand.tmp 34) (Go.Operand.tmp 33), type := 0, pos := "variable.go:98", after := #[{ on := 8, ground := Go.Ground.data }, { on := 7, ground := Go.Ground.data }, { on := 7, ground := Go.Ground.chain }, { on := 0, ground := Go.Ground.phase }, { on := 1, ground := Go.Ground.phase }, { on := 2, ground := Go.Ground.phase }, { on := 3, ground := Go.Ground.phase }, { on := 4, ground := Go.Ground.phase }, { on := 5, ground := Go.Ground.phase }, { on := 6, ground := Go.Ground.phase }, { on := 7, ground := Go.Ground.phase }], guard := none }) rfl (fun K hK => ?_) AllReadyH.nil
            rw [if_pos (by rfl)]
            go_simp
            have hK6 := Lib.hid (And.intro (hHeld.1.far (p := ⟨g7, 6, none⟩) (by show ¬ vb = g7; omega) (.slice A9 (j + 1) c9)) (hHeld.2.far (p := ⟨g7, 6, none⟩) (by show ¬ wr.heap.size = g7; omega) (.slice A9 (j + 1) c9)))
            clear hHeld
            refine hK.out _ _ hK6.out (fun hHeld => ?_)
            clear hK K
            try simp only [Act.put, List.setIfInBounds_toArray, List.set_cons_zero, List.set_cons_succ]
            refine wpAnyH_done (by kernel_rfl) ?_ _
            go_wp2_with fail
            go_roundw
            case rel => exact ⟨j + 1, A9, c9, out.snoc b, by omega, by go_num, by rw [Bl.len_snoc]; have := hol'.out; omega, Lib.hid ⟨r', hnew.out⟩, hR9.out.turns ((Turns.refl (fun k => k = g7) w9).setCell (p := ⟨g7, 6, none⟩) (fun _ => rfl) _) (fun g _ hs hh => hs.2 hh), L9.out.stored 6 _, hb9.out.setCell (p := ⟨g7, 6, none⟩) hgb _⟩
            case measure => simp [intOf]; omega
          refine AllReadyH.cons (o := { dst := some 32, op := Go.Op.buildSlice 29 1 #[(0, Go.Operand.tmp 31)], type := 29, pos := "variable.go:98", after := #[{ on := 5, ground := Go.Ground.data }], guard := none }) rfl (fun K hK => ?_) AllReadyH.nil
          · rw [if_pos (by rfl)]
            go_simp
            have hK4 := Lib.hid (And.intro (hHeld.1.alloc (.cells #[.string ⟨b.nm.toArray⟩, .int .i64 b.dp, .int .i64 b.d.k, .int .i64 b.d.n, .string ⟨b.d.s.toArray⟩, .slice I3 b.d.is.len i3, .slice K3 b.ks.len k3] 38)) (hHeld.2.alloc (.cells #[.string ⟨b.nm.toArray⟩, .int .i64 b.dp, .int .i64 b.d.k, .int .i64 b.d.n, .string ⟨b.d.s.toArray⟩, .slice I3 b.d.is.len i3, .slice K3 b.ks.len k3] 38)))
            clear hHeld
            refine hK.out _ _ hK4.out (fun hHeld => ?_)
            clear hK K
            try simp only [Act.put, List.setIfInBounds_toArray, List.set_cons_zero, List.set_cons_succ]
            refine wpAnyH_ready (rs := [1]) (by kernel_rfl) (by simp) ?_
            refine AllReadyH.cons (o := { dst := some 27, op := Go.Op.load 29 (Go.Operand.tmp 26), type := 29, pos := "variable.go:98", after := #[{ on := 0, ground := Go.Ground.data }], guard := none }) rfl (fun K hK => ?_) AllReadyH.nil
            rw [if_pos (by rfl)]
            go_simp
            refine hK.out _ _ hHeld (fun hHeld => ?_)
            clear hK K
            try simp only [Act.put, List.setIfInBounds_toArray, List.set_cons_zero, List.set_cons_succ]
            refine wpAnyH_ready (rs := [7]) (by kernel_rfl) (by simp) ?_
            refine AllReadyH.cons (o := { dst := some 33, op := Go.Op.call { callee := Go.Callee.builtin Go.Builtin.append, args := #[Go.Operand.tmp 27, Go.Operand.tmp 32], argTypes := #[29, 29] }, type := 29, pos := "variable.go:98", after := #[{ on := 1, ground := Go.Ground.data }, { on := 6, ground := Go.Ground.data }, { on := 5, ground := Go.Ground.chain }], guard := none }) rfl (fun K hK => ?_) AllReadyH.nil
            rw [if_pos (by rfl)]
            obtain ⟨cs, r1, r2, r3⟩ := kown_push hol'.out (hK'.out.below hbw3) hbm'.out (fun g _ hg => by simp at hg; exact ⟨⟨by omega, by omega⟩, fun hh => by have := (hKl.out _ hh).2; omega⟩) (show w5.heap.size ≤ w3.heap.size + 1 ∧ w3.heap.size + 1 ≠ g7 by omega)
            unfold bcells at r1 r2 r3
            have r3' := Lib.hid r3
            clear r3
            refine wp_append_row (v := .slice A8 j c8) (x := .slice (some ⟨w3.heap.size, 0, none⟩) 1 1) (.agg #[.string ⟨#[]⟩, .int .i64 0, .int .i64 0, .int .i64 0, .string ⟨#[]⟩, .slice none 0 0, .slice none 0 0]) 104 Tryz.infoBound rfl (by decide) _ _ 29 rfl Tryz.underlying29 rfl rfl r1 (own_one (e := 38) (sz := 7) (B := 0) w3 #[.string ⟨b.nm.toArray⟩, .int .i64 b.dp, .int .i64 b.d.k, .int .i64 b.d.n, .string ⟨b.d.s.toArray⟩, .slice I3 b.d.is.len i3, .slice K3 b.ks.len k3] rfl (Nat.zero_le _)) r2 (by omega) (by omega) (by simp) ?_
            intro v9 w9 hown9 hg9 hat9
            have hR9 := Lib.hid (r3'.out v9 w9 hown9 hg9 hat9)
            have T1 := Turns.appendedS hg9
            have n8 : ∀ h, (Value.slice A8 j c8).ownBlock = some h → w5.heap.size ≤ h ∧ h ≠ g7 ∧ h < wr.heap.size := fun h hh => ⟨(hKl.out h hh).1.1, (hKl.out h hh).1.2, (hKl.out h hh).2⟩
            have n9 : vb < w5.heap.size := V5.lt
            have hK5 := Lib.hid (And.intro (hHeld.1.turns T1 (fun hh => by have := n8 _ hh; omega)) (hHeld.2.turns T1 (fun hh => by have := n8 _ hh; omega)))
            obtain ⟨A9, c9, rfl⟩ : ∃ A9 c9, v9 = .slice A9 (j + 1) c9 := by obtain ⟨A9, c9, e, _⟩ := own_read hown9; exact ⟨A9, c9, e⟩
            have L9 := Lib.hid (((hL7.below hbw3 hL7.lt).alloc (.cells #[.string ⟨b.nm.toArray⟩, .int .i64 b.dp, .int .i64 b.d.k, .int .i64 b.d.n, .string ⟨b.d.s.toArray⟩, .slice I3 b.d.is.len i3, .slice K3 b.ks.len k3] 38)).turns T1 (fun hh => (n8 _ hh).2.1 rfl))
            have z9 : w9.cell? ⟨g7, 6, none⟩ = some (.slice A8 j c8) := L9.out.cell 6
            have f9 : w9.frozen? ⟨g7, 6, none⟩ = false := L9.out.free 6
            have hb9 := Lib.hid (show Below w5.heap.size w5 w9 from (((Turns.of_below (hb.trans (hbw3.mono hb.size)) (fun _ => False)).alloc _).then T1 (fun k hk hh => by have := n8 _ hh; omega)).below (Nat.le_refl _) (fun _ h => h.elim))
            clear hown9 hg9 hat9 T1 hHeld r1 r2 r3' n8
            refine hK.out _ _ hK5.out (fun hHeld => ?_)
            clear hK K
            try simp only [Act.put, List.setIfInBounds_toArray, List.set_cons_zero, List.set_cons_succ]
            refine wpAnyH_take (i := 8) (oi := { dst := some 34, op := Go.Op.fieldAddr 38 (Go.Operand.tmp 7) 3, type := 0, pos := "variable.go:98", after := #[{ on := 0, ground := Go.Ground.phase }, { on := 1, ground := Go.Ground.phase }, { on := 2, ground := Go.Ground.phase }, { on := 3, ground := Go.Ground.phase }, { on := 4, ground := Go.Ground.phase }, { on := 5, ground := Go.Ground.phase }, { on := 6, ground := Go.Ground.phase }, { on := 7, ground := Go.Ground.phase }], guard := none }) (v := ?_) rfl (by kernel_rfl) (by kernel_rfl) (by kernel_rfl) (fun _ _ _ h => h) (Or.inl ⟨by rfl, ?_⟩) (by assumption) ?_
            rotate_left
            · intro w hSw; clear hSw; go_simp; try with_reducible rfl
            try simp only [Act.put, List.setIfInBounds_toArray, List.set_cons_zero, List.set_cons_succ]
            refine wpAnyH_ready (rs := [9]) (by kernel_rfl) (by simp) ?_
            refine AllReadyH.cons (o := { dst := none, op := Go.Op.store 29 (Go.Operand.tmp 34) (Go.Operand.tmp 33), type := 0, pos := "variable.go:98", after := #[{ on := 8, ground := Go.Ground.data }, { on := 7, ground := Go.Ground.data }, { on := 7, ground := Go.Ground.chain }, { on := 0, ground := Go.Ground.phase }, { on := 1, ground := Go.Ground.phase }, { on := 2, ground := Go.Ground.phase }, { on := 3, ground := Go.Ground.phase }, { on := 4, ground := Go.Ground.phase }, { on := 5, ground := Go.Ground.phase }, { on := 6, ground := Go.Ground.phase }, { on := 7, ground := Go.Ground.phase }], guard := none }) rfl (fun K hK => ?_) AllReadyH.nil
            rw [if_pos (by rfl)]
            go_simp
            have hK6 := Lib.hid (And.intro (hHeld.1.far (p := ⟨g7, 6, none⟩) (by show ¬ vb = g7; omega) (.slice A9 (j + 1) c9)) (hHeld.2.far (p := ⟨g7, 6, none⟩) (by show ¬ wr.heap.size = g7; omega) (.slice A9 (j + 1) c9)))
            clear hHeld
            refine hK.out _ _ hK6.out (fun hHeld => ?_)
            clear hK K
            try simp only [Act.put, List.setIfInBounds_toArray, List.set_cons_zero, List.set_cons_succ]
            refine wpAnyH_done (by kernel_rfl) ?_ _
            go_wp2_with fail
            go_roundw
            case rel => exact ⟨j + 1, A9, c9, out.snoc b, by omega, by go_num, by rw [Bl.len_snoc]; have := hol'.out; omega, Lib.hid ⟨r', hnew.out⟩, hR9.out.turns ((Turns.refl (fun k => k = g7) w9).setCell (p := ⟨g7, 6, none⟩) (fun _ => rfl) _) (fun g _ hs hh => hs.2 hh), L9.out.stored 6 _, hb9.out.setCell (p := ⟨g7, 6, none⟩) hgb _⟩
            case measure => simp [intOf]; omega
      · obtain rfl : j = N := by omega
        obtain ⟨rest, hr1, hr2⟩ := hre.out
        have h0 := kids_done (by rw [hN'.out]; exact Nat.le_refl _) hr1
        rw [h0, Bl.app_nil] at hr2
        rw [hr2] at hK
        have M9 := M2.below hb M2.lt
        have x0 := M9.cell 0
        have x1 := M9.cell 1
        have x2 := M9.cell 2
        have x3 := M9.cell 3
        have x4 := M9.cell 4
        have x5 := M9.cell 5
        have x6 := M9.cell 6
        have xf := M9.free
        have z0 := hL7.cell 0
        have z1 := hL7.cell 1
        have z2 := hL7.cell 2
        have z3 := hL7.cell 3
        have z4 := hL7.cell 4
        have z5 := hL7.cell 5
        simp only [List.getElem?_cons_succ, List.getElem?_cons_zero] at x0 x1 x2 x3 x4 x5 x6 z0 z1 z2 z3 z4 z5
        have hln : ks.len = j := by rw [← hr2]; exact hol
        have hK2 := Lib.hid hK
        clear hr1 hr2 h0 hre hK
        go_wp2_with fail
        have hF := seven_lies M9 (.string ⟨nm.toArray⟩) (.int .i64 dp) (.int .i64 0) (.int .i64 0) (.string ⟨#[]⟩) (.slice none 0 0) (.slice A8 j c8)
        have r0 := hF.cell 0
        have r1 := hF.cell 1
        have r2 := hF.cell 2
        have r3 := hF.cell 3
        have r4 := hF.cell 4
        have r5 := hF.cell 5
        have r6 := hF.cell 6
        have hb10 := seven_below hbz (g := w.heap.size + 1) (by omega) (.string ⟨nm.toArray⟩) (.int .i64 dp) (.int .i64 0) (.int .i64 0) (.string ⟨#[]⟩) (.slice none 0 0) (.slice A8 j c8)
        have hk9 := hK2.out.turns (seven_one wr (w.heap.size + 1) (.string ⟨nm.toArray⟩) (.int .i64 dp) (.int .i64 0) (.int .i64 0) (.string ⟨#[]⟩) (.slice none 0 0) (.slice A8 j c8)) (fun g _ hs hh => by omega)
        unfold seven at r0 r1 r2 r3 r4 r5 r6 hb10 hk9
        simp only [List.getElem?_cons_zero, List.getElem?_cons_succ] at r0 r1 r2 r3 r4 r5 r6
        exact bodyPost_ret (v := bmv ⟨nm, dp, MM.d0, ks⟩ (.slice none 0 0) (.slice A8 j c8)) (by simp [results, Tryz.results81, go_sem, r0, r1, r2, r3, r4, r5, r6, bmv, MM.d0]) rfl ⟨_, _, rfl, ⟨DnD.nil _ _, hk9.bnd.mono (fun g _ hs => by omega)⟩, hb10⟩

  refine AllReadyH.cons (o := { dst := some 7, op := Go.Op.alloc 38, type := 0, pos := "variable.go:96", after := #[], guard := none }) rfl (fun K hK => ?_) AllReadyH.nil
  · rw [if_pos (by rfl)]
    go_simp
    have hKb := Lib.hid (And.intro (hHeld.1.alloc (.cells #[.string ⟨#[]⟩, .int .i64 0, .int .i64 0, .int .i64 0, .string ⟨#[]⟩, .slice none 0 0, .slice none 0 0] 38)) (hHeld.2.alloc (.cells #[.string ⟨#[]⟩, .int .i64 0, .int .i64 0, .int .i64 0, .string ⟨#[]⟩, .slice none 0 0, .slice none 0 0] 38)))
    clear hHeld
    refine hK.out _ _ hKb.out (fun hHeld => ?_)
    clear hK K
    try simp only [Act.put, List.setIfInBounds_toArray, List.set_cons_zero, List.set_cons_succ]
    refine wpAnyH_ready (rs := [5]) (by kernel_rfl) (by simp) ?_
    refine AllReadyH.cons (o := { dst := some 18, op := Go.Op.call { callee := Go.Callee.value (Go.Operand.func 82), args := #[Go.Operand.const (Go.Value.slice none 0 0), Go.Operand.tmp 17], argTypes := #[29, 3] }, type := 29, pos := "variable.go:96", after := #[{ on := 4, ground := Go.Ground.data }], guard := none }) rfl (fun K hK => ?_) AllReadyH.nil
    rw [if_pos (by rfl)]
    go_simp
    refine (hG.out _).mono ?_
    rintro e w6 ⟨v6, rfl, ho6, hb6⟩
    obtain ⟨A6, c6, rfl⟩ : ∃ A6 c6, v6 = .slice A6 0 c6 := by obtain ⟨A6, c6, e, _⟩ := own_read ho6; exact ⟨A6, c6, e⟩
    have hKa := Lib.hid (And.intro (hHeld.1.below hb6 hHeld.1.lt) (hHeld.2.below hb6 hHeld.2.lt))
    have L6 : Lies w6 w5.heap.size 38 (#[.string ⟨#[]⟩, .int .i64 0, .int .i64 0, .int .i64 0, .string ⟨#[]⟩, .slice none 0 0, .slice none 0 0] : Array Value).toList := (Lies.made w5.drew 38 #[.string ⟨#[]⟩, .int .i64 0, .int .i64 0, .int .i64 0, .string ⟨#[]⟩, .slice none 0 0, .slice none 0 0]).below hb6 (by simp)
    have x0 := L6.cell 0
    have x1 := L6.cell 1
    have x2 := L6.cell 2
    have x3 := L6.cell 3
    have x4 := L6.cell 4
    have x5 := L6.cell 5
    have x6 := L6.cell 6
    have xf := L6.free
    simp only [List.getElem?_cons_succ, List.getElem?_cons_zero] at x0 x1 x2 x3 x4 x5 x6
    have hb6' := Lib.hid hb6
    have ho6' := Lib.hid ho6
    clear hHeld ho6 hb6
    refine hK.out _ _ hKa.out (fun hHeld => ?_)
    clear hK K
    try simp only [Act.put, List.setIfInBounds_toArray, List.set_cons_zero, List.set_cons_succ]
    refine wpAnyH_take (i := 6) (oi := { dst := some 19, op := Go.Op.build 38 #[(0, Go.Operand.tmp 14), (1, Go.Operand.tmp 15), (3, Go.Operand.tmp 18)], type := 38, pos := "variable.go:96", after := #[{ on := 1, ground := Go.Ground.data }, { on := 2, ground := Go.Ground.data }, { on := 5, ground := Go.Ground.data }], guard := none }) (v := ?_) rfl (by kernel_rfl) (by kernel_rfl) (by kernel_rfl) (fun _ _ _ h => h) (Or.inl ⟨by rfl, ?_⟩) (by assumption) ?_
    rotate_left
    · intro w hSw; clear hSw; go_simp; try with_reducible rfl
    try simp only [Act.put, List.setIfInBounds_toArray, List.set_cons_zero, List.set_cons_succ]
    refine wpAnyH_ready (rs := [8]) (by kernel_rfl) (by simp) ?_
    refine AllReadyH.cons (o := { dst := none, op := Go.Op.store 38 (Go.Operand.tmp 7) (Go.Operand.tmp 19), type := 0, pos := "variable.go:96", after := #[{ on := 7, ground := Go.Ground.data }, { on := 6, ground := Go.Ground.data }, { on := 5, ground := Go.Ground.chain }, { on := 0, ground := Go.Ground.phase }, { on := 1, ground := Go.Ground.phase }, { on := 2, ground := Go.Ground.phase }, { on := 3, ground := Go.Ground.phase }, { on := 4, ground := Go.Ground.phase }, { on := 5, ground := Go.Ground.phase }, { on := 6, ground := Go.Ground.phase }, { on := 7, ground := Go.Ground.phase }], guard := none }) rfl (fun K hK => ?_) AllReadyH.nil
    rw [if_pos (by rfl)]
    go_simp
    have hKc := Lib.hid (And.intro (seven_far hKa.out.1 (g := w5.heap.size) (by omega) (.string ⟨nm.toArray⟩) (.int .i64 dp) (.int .i64 0) (.int .i64 0) (.string ⟨#[]⟩) (.slice none 0 0) (.slice A6 0 c6)) (seven_far hKa.out.2 (g := w5.heap.size) (by have := I5.lt; omega) (.string ⟨nm.toArray⟩) (.int .i64 dp) (.int .i64 0) (.int .i64 0) (.string ⟨#[]⟩) (.slice none 0 0) (.slice A6 0 c6)))
    clear hHeld
    refine hK.out _ _ hKc.out (fun hHeld => ?_)
    clear hK K
    try simp only [Act.put, List.setIfInBounds_toArray, List.set_cons_zero, List.set_cons_succ]
    refine wpAnyH_done (by kernel_rfl) ?_ _
    have b65 : Below w5.heap.size w5 w6 := below_of_drew (((Below.refl _ w5.drew).alloc (Nat.le_refl _) (.cells #[.string ⟨#[]⟩, .int .i64 0, .int .i64 0, .int .i64 0, .string ⟨#[]⟩, .slice none 0 0, .slice none 0 0] 38)).trans (hb6'.out.mono (by simp)))
    have L7a := seven_lies L6 (.string ⟨nm.toArray⟩) (.int .i64 dp) (.int .i64 0) (.int .i64 0) (.string ⟨#[]⟩) (.slice none 0 0) (.slice A6 0 c6)
    have K7a := (KOwn.of_own (D := fun g => w5.heap.size ≤ g ∧ g ≠ w5.heap.size) ho6'.out (fun g hg hh => by simp at hg; omega)).turns (seven_one w6 w5.heap.size (.string ⟨nm.toArray⟩) (.int .i64 dp) (.int .i64 0) (.int .i64 0) (.string ⟨#[]⟩) (.slice none 0 0) (.slice A6 0 c6)) (fun g _ hs hh => hs.2 hh)
    have B7 := seven_below b65 (g := w5.heap.size) (Nat.le_refl _) (.string ⟨nm.toArray⟩) (.int .i64 dp) (.int .i64 0) (.int .i64 0) (.string ⟨#[]⟩) (.slice none 0 0) (.slice A6 0 c6)
    change Exit.then _ _ _ _ (seven w6 w5.heap.size (.string ⟨nm.toArray⟩) (.int .i64 dp) (.int .i64 0) (.int .i64 0) (.string ⟨#[]⟩) (.slice none 0 0) (.slice A6 0 c6))
    clear hKa hKb hKc hHeld hb6' ho6' x0 x1 x2 x3 x4 x5 x6 xf
    obtain ⟨g7, hg7⟩ : ∃ g7, w5.heap.size = g7 := ⟨_, rfl⟩
    have K7 : KOwn (seven w6 w5.heap.size (.string ⟨nm.toArray⟩) (.int .i64 dp) (.int .i64 0) (.int .i64 0) (.string ⟨#[]⟩) (.slice none 0 0) (.slice A6 0 c6)) (fun g => w5.heap.size ≤ g ∧ g ≠ g7) (.slice A6 0 c6) .nil := by rw [← hg7]; exact K7a
    have L7 : Lies (seven w6 w5.heap.size (.string ⟨nm.toArray⟩) (.int .i64 dp) (.int .i64 0) (.int .i64 0) (.string ⟨#[]⟩) (.slice none 0 0) (.slice A6 0 c6)) g7 38 [.string ⟨nm.toArray⟩, .int .i64 dp, .int .i64 0, .int .i64 0, .string ⟨#[]⟩, .slice none 0 0, .slice A6 0 c6] := by rw [← hg7]; exact L7a
    have hgb : w5.heap.size ≤ g7 := by omega
    clear K7a L7a
    generalize hW7 : seven w6 w5.heap.size (.string ⟨nm.toArray⟩) (.int .i64 dp) (.int .i64 0) (.int .i64 0) (.string ⟨#[]⟩) (.slice none 0 0) (.slice A6 0 c6) = W7 at L7 K7 B7 ⊢
    clear hW7 b65 L6
    simp only [hg7]
    clear hg7
    have V7 := V5.below B7 V5.lt
    have hC7 := hC5.below B7
    have q3 : ∀ o, W7.cell? ⟨g7, o, none⟩ = W7.cell? ⟨g7, o, none⟩ := fun _ => rfl
    clear q3 hC7 V7
    go_wp2_with fail
    go_loopw [22] (fun i wr => ∃ (j : Nat) (A8 : Option Addr) (c8 : Nat) (out : Bl), j ≤ N ∧ i = .int .i64 j ∧ out.len = j ∧ Hid (∃ rest, MM.kidsOf fd (SM.dr l j) = some rest ∧ out.app rest = ks) ∧ KOwn wr (fun g => w5.heap.size ≤ g ∧ g ≠ g7) (.slice A8 j c8) out ∧ Lies wr g7 38 [.string ⟨nm.toArray⟩, .int .i64 dp, .int .i64 0, .int .i64 0, .string ⟨#[]⟩, .slice none 0 0, .slice A8 j c8] ∧ Below w5.heap.size w5 wr) (fun i _ => N - (intOf i).toNat)
    case atStart => exact ⟨0, A6, c6, .nil, Nat.zero_le _, rfl, rfl, Lib.hid ⟨ks, by rw [SM.dr_zero]; exact hks'.out, rfl⟩, K7, L7, B7⟩
    case round =>
      obtain ⟨j, A8, c8, out, hj, rfl, hol, hre, hK, hL7, hb⟩ := hrel
      clear K7 L7 B7
      have hol' := Lib.hid hol
      have hK' := Lib.hid hK
      have hKl := Lib.hid hK.lt
      have hgr := hL7.lt
      have y6 : wr.cell? ⟨g7, 6, none⟩ = some (.slice A8 j c8) := hL7.cell 6
      have hbz : Below w.heap.size w wr := hbw.trans (hb.mono hbw.size)
      by_cases hlt2 : j < N
      · obtain ⟨y, hy⟩ := l.at_some j (by rw [hN'.out]; exact hlt2)
        obtain ⟨rest, hr1, hr2⟩ := hre.out
        obtain ⟨b, r', hb1, hb2', hb3⟩ := kids_step hy hr1
        obtain ⟨eb, eo, B, q, rfl, hbl, p0, p1, p2, p3, hd1⟩ := (hC5.below hb).at_ hy
        have hC := Lib.hid (fun (w' : World) (hb' : Below wr.heap.size wr w') => hFd.out w' (hbz.trans (hb'.mono hbz.size)) y (.slice B y.is.len q) b (hd1.below hb') j hy hb1)
        unfold FindN at hC
        have hnew := Lib.hid (show MM.kidsOf fd (SM.dr l (j + 1)) = some r' ∧ (out.snoc b).app r' = ks from ⟨hb2', by rw [← hr2, hb3, Bl.snoc, Bl.app_app]; rfl⟩)
        have hbx := m_box wr #[.int .i64 y.k, .int .i64 y.n, .string ⟨y.s.toArray⟩, .slice B y.is.len q] 24
        have hMx := Lies.made wr 24 #[.int .i64 y.k, .int .i64 y.n, .string ⟨y.s.toArray⟩, .slice B y.is.len q]
        have y6b : (wr.alloc (.cells #[.int .i64 y.k, .int .i64 y.n, .string ⟨y.s.toArray⟩, .slice B y.is.len q] 24)).cell? ⟨g7, 6, none⟩ = some (.slice A8 j c8) := (hbx.cell (p := ⟨g7, 6, none⟩) hgr).trans y6
        have Vx := (V5.below hb V5.lt).below hbx (V5.below hb V5.lt).lt
        have hsw := hb.size
        clear hy hr1 hr2 hb1 hb2' hb3 hd1 hol hK
        go_wp2_with fail
        refine wp_region_held_drew (S := fun w' => Lies w' vb 60 [.string ⟨nm.toArray⟩, dv, .func (.func kf) #[] lf] ∧ Lies w' wr.heap.size 24 [.int .i64 y.k, .int .i64 y.n, .string ⟨y.s.toArray⟩, .slice B y.is.len q]) rfl ⟨Vx.drew, hMx.drew⟩ (fun hHeld => ?_)
        refine wpAnyH_take (i := 0) (oi := { dst := some 26, op := Go.Op.fieldAddr 38 (Go.Operand.tmp 7) 3, type := 0, pos := "variable.go:98", after := #[], guard := none }) (v := ?_) rfl (by kernel_rfl) (by kernel_rfl) (by kernel_rfl) (fun _ _ _ h => h) (Or.inl ⟨by rfl, ?_⟩) (by assumption) ?_
        rotate_left
        · intro w hSw; clear hSw; go_simp; try with_reducible rfl
        try simp only [Act.put, List.setIfInBounds_toArray, List.set_cons_zero, List.set_cons_succ]
        refine wpAnyH_take (i := 2) (oi := { dst := some 28, op := Go.Op.fieldAddr 60 (Go.Operand.tmp 2) 2, type := 0, pos := "variable.go:98", after := #[], guard := none }) (v := ?_) rfl (by kernel_rfl) (by kernel_rfl) (by kernel_rfl) (fun _ _ _ h => h) (Or.inl ⟨by rfl, ?_⟩) (by assumption) ?_
        rotate_left
        · intro w hSw; clear hSw; go_simp; try with_reducible rfl
        try simp only [Act.put, List.setIfInBounds_toArray, List.set_cons_zero, List.set_cons_succ]
        refine wpAnyH_take (i := 3) (oi := { dst := some 29, op := Go.Op.load 58 (Go.Operand.tmp 28), type := 58, pos := "variable.go:98", after := #[{ on := 2, ground := Go.Ground.data }], guard := none }) (v := ?_) rfl (by kernel_rfl) (by kernel_rfl) (by kernel_rfl) (fun _ _ _ h => h) (Or.inl ⟨by rfl, ?_⟩) (by assumption) ?_
        rotate_left
        · intro w7 hS7
          have k2 := hS7.1.cell 2
          simp only [List.getElem?_cons_succ, List.getElem?_cons_zero] at k2
          clear hS7
          go_simp
          try with_reducible rfl
        try simp only [Act.put, List.setIfInBounds_toArray, List.set_cons_zero, List.set_cons_succ]
        refine wpAnyH_take (i := 4) (oi := { dst := some 30, op := Go.Op.load 24 (Go.Operand.tmp 9), type := 24, pos := "variable.go:98", after := #[], guard := none }) (v := ?_) rfl (by kernel_rfl) (by kernel_rfl) (by kernel_rfl) (fun _ _ _ h => h) (Or.inl ⟨by rfl, ?_⟩) (by assumption) ?_
        rotate_left
        · intro w7 hS7
          have k0 := hS7.2.cell 0
          have k1 := hS7.2.cell 1
          have k2 := hS7.2.cell 2
          have k3 := hS7.2.cell 3
          simp only [List.getElem?_cons_succ, List.getElem?_cons_zero] at k0 k1 k2 k3
          clear hS7
          go_simp
          try with_reducible rfl
        try simp only [Act.put, List.setIfInBounds_toArray, List.set_cons_zero, List.set_cons_succ]
        refine wpAnyH_ready (rs := [1, 5]) (by kernel_rfl) (by simp) ?_
        refine AllReadyH.cons (o := { dst := some 27, op := Go.Op.load 29 (Go.Operand.tmp 26), type := 29, pos := "variable.go:98", after := #[{ on := 0, ground := Go.Ground.data }], guard := none }) rfl (fun K hK => ?_) ?_
        · rw [if_pos (by rfl)]
          go_simp
          refine hK.out _ _ hHeld (fun hHeld => ?_)
          clear hK K
          try simp only [Act.put, List.setIfInBounds_toArray, List.set_cons_zero, List.set_cons_succ]
          refine wpAnyH_ready (rs := [5]) (by kernel_rfl) (by simp) ?_
          refine AllReadyH.cons (o := { dst := some 31, op := Go.Op.call { callee := Go.Callee.value (Go.Operand.tmp 29), args := #[Go.Operand.tmp 30], argTypes := #[24] }, type := 38, pos := "variable.go:98", after := #[{ on := 3, ground := Go.Ground.data }, { on := 4, ground := Go.Ground.data }], guard := none }) rfl (fun K hK => ?_) AllReadyH.nil
          rw [if_pos (by rfl)]
          go_simp
          refine (hC.out _ (below_drewN hbx 1)).mono ?_
          rintro e w3 ⟨iv, kv, rfl, hbm, hb3⟩
          obtain ⟨I3, i3, rfl⟩ := hbm.d.in_.read
          obtain ⟨K3, k3, rfl⟩ := hbm.k.read
          unfold bmv
          have hbw3 : Below wr.heap.size wr w3 := hbx.trans (below_of_drew (hb3.mono (by simp)))
          have hs4 : wr.heap.size < w3.heap.size := by have := hb3.size; simp at this; omega
          have z3 : w3.cell? ⟨g7, 6, none⟩ = some (.slice A8 j c8) := (hbw3.cell (p := ⟨g7, 6, none⟩) hgr).trans y6
          have z3a : (w3.alloc (.cells #[.string ⟨b.nm.toArray⟩, .int .i64 b.dp, .int .i64 b.d.k, .int .i64 b.d.n, .string ⟨b.d.s.toArray⟩, .slice I3 b.d.is.len i3, .slice K3 b.ks.len k3] 38)).cell? ⟨g7, 6, none⟩ = some (.slice A8 j c8) := (((Below.refl _ w3).alloc (Nat.le_refl _) _).cell (p := ⟨g7, 6, none⟩) (by show g7 < w3.heap.size; omega)).trans z3
          have hbm' := Lib.hid hbm
          have hK3 := Lib.hid (And.intro (hHeld.1.below hb3 hHeld.1.lt) (hHeld.2.below hb3 hHeld.2.lt))
          clear hbm hb3 hHeld
          refine hK.out _ _ hK3.out (fun hHeld => ?_)
          clear hK K
          try simp only [Act.put, List.setIfInBounds_toArray, List.set_cons_zero, List.set_cons_succ]
          refine wpAnyH_ready (rs := [6]) (by kernel_rfl) (by simp) ?_
          refine AllReadyH.cons (o := { dst := some 32, op := Go.Op.buildSlice 29 1 #[(0, Go.Operand.tmp 31)], type := 29, pos := "variable.go:98", after := #[{ on := 5, ground := Go.Ground.data }], guard := none }) rfl (fun K hK => ?_) AllReadyH.nil
          rw [if_pos (by rfl)]
          go_simp
          have hK4 := Lib.hid (And.intro (hHeld.1.alloc (.cells #[.string ⟨b.nm.toArray⟩, .int .i64 b.dp, .int .i64 b.d.k, .int .i64 b.d.n, .string ⟨b.d.s.toArray⟩, .slice I3 b.d.is.len i3, .slice K3 b.ks.len k3] 38)) (hHeld.2.alloc (.cells #[.string ⟨b.nm.toArray⟩, .int .i64 b.dp, .int .i64 b.d.k, .int .i64 b.d.n, .string ⟨b.d.s.toArray⟩, .slice I3 b.d.is.len i3, .slice K3 b.ks.len k3] 38)))
          clear hHeld
          refine hK.out _ _ hK4.out (fun hHeld => ?_)
          clear hK K
          try simp only [Act.put, List.setIfInBounds_toArray, List.set_cons_zero, List.set_cons_succ]
          refine wpAnyH_ready (rs := [7]) (by kernel_rfl) (by simp) ?_
          refine AllReadyH.cons (o := { dst := some 33, op := Go.Op.call { callee := Go.Callee.builtin Go.Builtin.append, args := #[Go.Operand.tmp 27, Go.Operand.tmp 32], argTypes := #[29, 29] }, type := 29, pos := "variable.go:98", after := #[{ on := 1, ground := Go.Ground.data }, { on := 6, ground := Go.Ground.data }, { on := 5, ground := Go.Ground.chain }], guard := none }) rfl (fun K hK => ?_) AllReadyH.nil
          rw [if_pos (by rfl)]
          obtain ⟨cs, r1, r2, r3⟩ := kown_push hol'.out (hK'.out.below hbw3) hbm'.out (fun g _ hg => by simp at hg; exact ⟨⟨by omega, by omega⟩, fun hh => by have := (hKl.out _ hh).2; omega⟩) (show w5.heap.size ≤ w3.heap.size + 1 ∧ w3.heap.size + 1 ≠ g7 by omega)
          unfold bcells at r1 r2 r3
          have r3' := Lib.hid r3
          clear r3
          refine wp_append_row (v := .slice A8 j c8) (x := .slice (some ⟨w3.heap.size, 0, none⟩) 1 1) (.agg #[.string ⟨#[]⟩, .int .i64 0, .int .i64 0, .int .i64 0, .string ⟨#[]⟩, .slice none 0 0, .slice none 0 0]) 104 Tryz.infoBound rfl (by decide) _ _ 29 rfl Tryz.underlying29 rfl rfl r1 (own_one (e := 38) (sz := 7) (B := 0) w3 #[.string ⟨b.nm.toArray⟩, .int .i64 b.dp, .int .i64 b.d.k, .int .i64 b.d.n, .string ⟨b.d.s.toArray⟩, .slice I3 b.d.is.len i3, .slice K3 b.ks.len k3] rfl (Nat.zero_le _)) r2 (by omega) (by omega) (by simp) ?_
          intro v9 w9 hown9 hg9 hat9
          have hR9 := Lib.hid (r3'.out v9 w9 hown9 hg9 hat9)
          have T1 := Turns.appendedS hg9
          have n8 : ∀ h, (Value.slice A8 j c8).ownBlock = some h → w5.heap.size ≤ h ∧ h ≠ g7 ∧ h < wr.heap.size := fun h hh => ⟨(hKl.out h hh).1.1, (hKl.out h hh).1.2, (hKl.out h hh).2⟩
          have n9 : vb < w5.heap.size := V5.lt
          have hK5 := Lib.hid (And.intro (hHeld.1.turns T1 (fun hh => by have := n8 _ hh; omega)) (hHeld.2.turns T1 (fun hh => by have := n8 _ hh; omega)))
          obtain ⟨A9, c9, rfl⟩ : ∃ A9 c9, v9 = .slice A9 (j + 1) c9 := by obtain ⟨A9, c9, e, _⟩ := own_read hown9; exact ⟨A9, c9, e⟩
          have L9 := Lib.hid (((hL7.below hbw3 hL7.lt).alloc (.cells #[.string ⟨b.nm.toArray⟩, .int .i64 b.dp, .int .i64 b.d.k, .int .i64 b.d.n, .string ⟨b.d.s.toArray⟩, .slice I3 b.d.is.len i3, .slice K3 b.ks.len k3] 38)).turns T1 (fun hh => (n8 _ hh).2.1 rfl))
          have z9 : w9.cell? ⟨g7, 6, none⟩ = some (.slice A8 j c8) := L9.out.cell 6
          have f9 : w9.frozen? ⟨g7, 6, none⟩ = false := L9.out.free 6
          have hb9 := Lib.hid (show Below w5.heap.size w5 w9 from (((Turns.of_below (hb.trans (hbw3.mono hb.size)) (fun _ => False)).alloc _).then T1 (fun k hk hh => by have := n8 _ hh; omega)).below (Nat.le_refl _) (fun _ h => h.elim))
          clear hown9 hg9 hat9 T1 hHeld r1 r2 r3' n8
          refine hK.out _ _ hK5.out (fun hHeld => ?_)
          clear hK K
          try simp only [Act.put, List.setIfInBounds_toArray, List.set_cons_zero, List.set_cons_succ]
          refine wpAnyH_take (i := 8) (oi := { dst := some 34, op := Go.Op.fieldAddr 38 (Go.Operand.tmp 7) 3, type := 0, pos := "variable.go:98", after := #[{ on := 0, ground := Go.Ground.phase }, { on := 1, ground := Go.Ground.phase }, { on := 2, ground := Go.Ground.phase }, { on := 3, ground := Go.Ground.phase }, { on := 4, ground := Go.Ground.phase }, { on := 5, ground := Go.Ground.phase }, { on := 6, ground := Go.Ground.phase }, { on := 7, ground := Go.Ground.phase }], guard := none }) (v := ?_) rfl (by kernel_rfl) (by kernel_rfl) (by kernel_rfl) (fun _ _ _ h => h) (Or.inl ⟨by rfl, ?_⟩) (by assumption) ?_
          rotate_left
          · intro w hSw; clear hSw; go_simp; try with_reducible rfl
          try simp only [Act.put, List.setIfInBounds_toArray, List.set_cons_zero, List.set_cons_succ]
          refine wpAnyH_ready (rs := [9]) (by kernel_rfl) (by simp) ?_
          refine AllReadyH.cons (o := { dst := none, op := Go.Op.store 29 (Go.Operand.tmp 34) (Go.Operand.tmp 33), type := 0, pos := "variable.go:98", after := #[{ on := 8, ground := Go.Ground.data }, { on := 7, ground := Go.Ground.data }, { on := 7, ground := Go.Ground.chain }, { on := 0, ground := Go.Ground.phase }, { on := 1, ground := Go.Ground.phase }, { on := 2, ground := Go.Ground.phase }, { on := 3, ground := Go.Ground.phase }, { on := 4, ground := Go.Ground.phase }, { on := 5, ground := Go.Ground.phase }, { on := 6, ground := Go.Ground.phase }, { on := 7, ground := Go.Ground.phase }], guard := none }) rfl (fun K hK => ?_) AllReadyH.nil
          rw [if_pos (by rfl)]
          go_simp
          have hK6 := Lib.hid (And.intro (hHeld.1.far (p := ⟨g7, 6, none⟩) (by show ¬ vb = g7; omega) (.slice A9 (j + 1) c9)) (hHeld.2.far (p := ⟨g7, 6, none⟩) (by show ¬ wr.heap.size = g7; omega) (.slice A9 (j + 1) c9)))
          clear hHeld
          refine hK.out _ _ hK6.out (fun hHeld => ?_)
          clear hK K
          try simp only [Act.put, List.setIfInBounds_toArray, List.set_cons_zero, List.set_cons_succ]
          refine wpAnyH_done (by kernel_rfl) ?_ _
          go_wp2_with fail
          go_roundw
          case rel => exact ⟨j + 1, A9, c9, out.snoc b, by omega, by go_num, by rw [Bl.len_snoc]; have := hol'.out; omega, Lib.hid ⟨r', hnew.out⟩, hR9.out.turns ((Turns.refl (fun k => k = g7) w9).setCell (p := ⟨g7, 6, none⟩) (fun _ => rfl) _) (fun g _ hs hh => hs.2 hh), L9.out.stored 6 _, hb9.out.setCell (p := ⟨g7, 6, none⟩) hgb _⟩
          case measure => simp [intOf]; omega
        refine AllReadyH.cons (o := { dst := some 31, op := Go.Op.call { callee := Go.Callee.value (Go.Operand.tmp 29), args := #[Go.Operand.tmp 30], argTypes := #[24] }, type := 38, pos := "variable.go:98", after := #[{ on := 3, ground := Go.Ground.data }, { on := 4, ground := Go.Ground.data }], guard := none }) rfl (fun K hK => ?_) AllReadyH.nil
        · rw [if_pos (by rfl)]
          go_simp
          refine (hC.out _ (below_drewN hbx 1)).mono ?_
          rintro e w3 ⟨iv, kv, rfl, hbm, hb3⟩
          obtain ⟨I3, i3, rfl⟩ := hbm.d.in_.read
          obtain ⟨K3, k3, rfl⟩ := hbm.k.read
          unfold bmv
          have hbw3 : Below wr.heap.size wr w3 := hbx.trans (below_of_drew (hb3.mono (by simp)))
          have hs4 : wr.heap.size < w3.heap.size := by have := hb3.size; simp at this; omega
          have z3 : w3.cell? ⟨g7, 6, none⟩ = some (.slice A8 j c8) := (hbw3.cell (p := ⟨g7, 6, none⟩) hgr).trans y6
          have z3a : (w3.alloc (.cells #[.string ⟨b.nm.toArray⟩, .int .i64 b.dp, .int .i64 b.d.k, .int .i64 b.d.n, .string ⟨b.d.s.toArray⟩, .slice I3 b.d.is.len i3, .slice K3 b.ks.len k3] 38)).cell? ⟨g7, 6, none⟩ = some (.slice A8 j c8) := (((Below.refl _ w3).alloc (Nat.le_refl _) _).cell (p := ⟨g7, 6, none⟩) (by show g7 < w3.heap.size; omega)).trans z3
          have hbm' := Lib.hid hbm
          have hK3 := Lib.hid (And.intro (hHeld.1.below hb3 hHeld.1.lt) (hHeld.2.below hb3 hHeld.2.lt))
          clear hbm hb3 hHeld
          refine hK.out _ _ hK3.out (fun hHeld => ?_)
          clear hK K
          try simp only [Act.put, List.setIfInBounds_toArray, List.set_cons_zero, List.set_cons_succ]
          refine wpAnyH_ready (rs := [1, 6]) (by kernel_rfl) (by simp) ?_
          refine AllReadyH.cons (o := { dst := some 27, op := Go.Op.load 29 (Go.Operand.tmp 26), type := 29, pos := "variable.go:98", after := #[{ on := 0, ground := Go.Ground.data }], guard := none }) rfl (fun K hK => ?_) ?_
          · rw [if_pos (by rfl)]
            go_simp
            refine hK.out _ _ hHeld (fun hHeld => ?_)
            clear hK K
            try simp only [Act.put, List.setIfInBounds_toArray, List.set_cons_zero, List.set_cons_succ]
            refine wpAnyH_ready (rs := [6]) (by kernel_rfl) (by simp) ?_
            refine AllReadyH.cons (o := { dst := some 32, op := Go.Op.buildSlice 29 1 #[(0, Go.Operand.tmp 31)], type := 29, pos := "variable.go:98", after := #[{ on := 5, ground := Go.Ground.data }], guard := none }) rfl (fun K hK => ?_) AllReadyH.nil
            rw [if_pos (by rfl)]
            go_simp
            have hK4 := Lib.hid (And.intro (hHeld.1.alloc (.cells #[.string ⟨b.nm.toArray⟩, .int .i64 b.dp, .int .i64 b.d.k, .int .i64 b.d.n, .string ⟨b.d.s.toArray⟩, .slice I3 b.d.is.len i3, .slice K3 b.ks.len k3] 38)) (hHeld.2.alloc (.cells #[.string ⟨b.nm.toArray⟩, .int .i64 b.dp, .int .i64 b.d.k, .int .i64 b.d.n, .string ⟨b.d.s.toArray⟩, .slice I3 b.d.is.len i3, .slice K3 b.ks.len k3] 38)))
            clear hHeld
            refine hK.out _ _ hK4.out (fun hHeld => ?_)
            clear hK K
            try simp only [Act.put, List.setIfInBounds_toArray, List.set_cons_zero, List.set_cons_succ]
            refine wpAnyH_ready (rs := [7]) (by kernel_rfl) (by simp) ?_
            refine AllReadyH.cons (o := { dst := some 33, op := Go.Op.call { callee := Go.Callee.builtin Go.Builtin.append, args := #[Go.Operand.tmp 27, Go.Operand.tmp 32], argTypes := #[29, 29] }, type := 29, pos := "variable.go:98", after := #[{ on := 1, ground := Go.Ground.data }, { on := 6, ground := Go.Ground.data }, { on := 5, ground := Go.Ground.chain }], guard := none }) rfl (fun K hK => ?_) AllReadyH.nil
            rw [if_pos (by rfl)]
            obtain ⟨cs, r1, r2, r3⟩ := kown_push hol'.out (hK'.out.below hbw3) hbm'.out (fun g _ hg => by simp at hg; exact ⟨⟨by omega, by omega⟩, fun hh => by have := (hKl.out _ hh).2; omega⟩) (show w5.heap.size ≤ w3.heap.size + 1 ∧ w3.heap.size + 1 ≠ g7 by omega)
            unfold bcells at r1 r2 r3
            have r3' := Lib.hid r3
            clear r3
            refine wp_append_row (v := .slice A8 j c8) (x := .slice (some ⟨w3.heap.size, 0, none⟩) 1 1) (.agg #[.string ⟨#[]⟩, .int .i64 0, .int .i64 0, .int .i64 0, .string ⟨#[]⟩, .slice none 0 0, .slice none 0 0]) 104 Tryz.infoBound rfl (by decide) _ _ 29 rfl Tryz.underlying29 rfl rfl r1 (own_one (e := 38) (sz := 7) (B := 0) w3 #[.string ⟨b.nm.toArray⟩, .int .i64 b.dp, .int .i64 b.d.k, .int .i64 b.d.n, .string ⟨b.d.s.toArray⟩, .slice I3 b.d.is.len i3, .slice K3 b.ks.len k3] rfl (Nat.zero_le _)) r2 (by omega) (by omega) (by simp) ?_
            intro v9 w9 hown9 hg9 hat9
            have hR9 := Lib.hid (r3'.out v9 w9 hown9 hg9 hat9)
            have T1 := Turns.appendedS hg9
            have n8 : ∀ h, (Value.slice A8 j c8).ownBlock = some h → w5.heap.size ≤ h ∧ h ≠ g7 ∧ h < wr.heap.size := fun h hh => ⟨(hKl.out h hh).1.1, (hKl.out h hh).1.2, (hKl.out h hh).2⟩
            have n9 : vb < w5.heap.size := V5.lt
            have hK5 := Lib.hid (And.intro (hHeld.1.turns T1 (fun hh => by have := n8 _ hh; omega)) (hHeld.2.turns T1 (fun hh => by have := n8 _ hh; omega)))
            obtain ⟨A9, c9, rfl⟩ : ∃ A9 c9, v9 = .slice A9 (j + 1) c9 := by obtain ⟨A9, c9, e, _⟩ := own_read hown9; exact ⟨A9, c9, e⟩
            have L9 := Lib.hid (((hL7.below hbw3 hL7.lt).alloc (.cells #[.string ⟨b.nm.toArray⟩, .int .i64 b.dp, .int .i64 b.d.k, .int .i64 b.d.n, .string ⟨b.d.s.toArray⟩, .slice I3 b.d.is.len i3, .slice K3 b.ks.len k3] 38)).turns T1 (fun hh => (n8 _ hh).2.1 rfl))
            have z9 : w9.cell? ⟨g7, 6, none⟩ = some (.slice A8 j c8) := L9.out.cell 6
            have f9 : w9.frozen? ⟨g7, 6, none⟩ = false := L9.out.free 6
            have hb9 := Lib.hid (show Below w5.heap.size w5 w9 from (((Turns.of_below (hb.trans (hbw3.mono hb.size)) (fun _ => False)).alloc _).then T1 (fun k hk hh => by have := n8 _ hh; omega)).below (Nat.le_refl _) (fun _ h => h.elim))
            clear hown9 hg9 hat9 T1 hHeld r1 r2 r3' n8
            refine hK.out _ _ hK5.out (fun hHeld => ?_)
            clear hK K
            try simp only [Act.put, List.setIfInBounds_toArray, List.set_cons_zero, List.set_cons_succ]
            refine wpAnyH_take (i := 8) (oi := { dst := some 34, op := Go.Op.fieldAddr 38 (Go.Operand.tmp 7) 3, type := 0, pos := "variable.go:98", after := #[{ on := 0, ground := Go.Ground.phase }, { on := 1, ground := Go.Ground.phase }, { on := 2, ground := Go.Ground.phase }, { on := 3, ground := Go.Ground.phase }, { on := 4, ground := Go.Ground.phase }, { on := 5, ground := Go.Ground.phase }, { on := 6, ground := Go.Ground.phase }, { on := 7, ground := Go.Ground.phase }], guard := none }) (v := ?_) rfl (by kernel_rfl) (by kernel_rfl) (by kernel_rfl) (fun _ _ _ h => h) (Or.inl ⟨by rfl, ?_⟩) (by assumption) ?_
            rotate_left
            · intro w hSw; clear hSw; go_simp; try with_reducible rfl
            try simp only [Act.put, List.setIfInBounds_toArray, List.set_cons_zero, List.set_cons_succ]
            refine wpAnyH_ready (rs := [9]) (by kernel_rfl) (by simp) ?_
            refine AllReadyH.cons (o := { dst := none, op := Go.Op.store 29 (Go.Operand.tmp 34) (Go.Operand.tmp 33), type := 0, pos := "variable.go:98", after := #[{ on := 8, ground := Go.Ground.data }, { on := 7, ground := Go.Ground.data }, { on := 7, ground := Go.Ground.chain }, { on := 0, ground := Go.Ground.phase }, { on := 1, ground := Go.Ground.phase }, { on := 2, ground := Go.Ground.phase }, { on := 3, ground := Go.Ground.phase }, { on := 4, ground := Go.Ground.phase }, { on := 5, ground := Go.Ground.phase }, { on := 6, ground := Go.Ground.phase }, { on := 7, ground := Go.Ground.phase }], guard := none }) rfl (fun K hK => ?_) AllReadyH.nil
            rw [if_pos (by rfl)]
            go_simp
            have hK6 := Lib.hid (And.intro (hHeld.1.far (p := ⟨g7, 6, none⟩) (by show ¬ vb = g7; omega) (.slice A9 (j + 1) c9)) (hHeld.2.far (p := ⟨g7, 6, none⟩) (by show ¬ wr.heap.size = g7; omega) (.slice A9 (j + 1) c9)))
            clear hHeld
            refine hK.out _ _ hK6.out (fun hHeld => ?_)
            clear hK K
            try simp only [Act.put, List.setIfInBounds_toArray, List.set_cons_zero, List.set_cons_succ]
            refine wpAnyH_done (by kernel_rfl) ?_ _
            go_wp2_with fail
            go_roundw
            case rel => exact ⟨j + 1, A9, c9, out.snoc b, by omega, by go_num, by rw [Bl.len_snoc]; have := hol'.out; omega, Lib.hid ⟨r', hnew.out⟩, hR9.out.turns ((Turns.refl (fun k => k = g7) w9).setCell (p := ⟨g7, 6, none⟩) (fun _ => rfl) _) (fun g _ hs hh => hs.2 hh), L9.out.stored 6 _, hb9.out.setCell (p := ⟨g7, 6, none⟩) hgb _⟩
            case measure => simp [intOf]; omega
          refine AllReadyH.cons (o := { dst := some 32, op := Go.Op.buildSlice 29 1 #[(0, Go.Operand.tmp 31)], type := 29, pos := "variable.go:98", after := #[{ on := 5, ground := Go.Ground.data }], guard := none }) rfl (fun K hK => ?_) AllReadyH.nil
          · rw [if_pos (by rfl)]
            go_simp
            have hK4 := Lib.hid (And.intro (hHeld.1.alloc (.cells #[.string ⟨b.nm.toArray⟩, .int .i64 b.dp, .int .i64 b.d.k, .int .i64 b.d.n, .string ⟨b.d.s.toArray⟩, .slice I3 b.d.is.len i3, .slice K3 b.ks.len k3] 38)) (hHeld.2.alloc (.cells #[.string ⟨b.nm.toArray⟩, .int .i64 b.dp, .int .i64 b.d.k, .int .i64 b.d.n, .string ⟨b.d.s.toArray⟩, .slice I3 b.d.is.len i3, .slice K3 b.ks.len k3] 38)))
            clear hHeld
            refine hK.out _ _ hK4.out (fun hHeld => ?_)
            clear hK K
            try simp only [Act.put, List.setIfInBounds_toArray, List.set_cons_zero, List.set_cons_succ]
            refine wpAnyH_ready (rs := [1]) (by kernel_rfl) (by simp) ?_
            refine AllReadyH.cons (o := { dst := some 27, op := Go.Op.load 29 (Go.Operand.tmp 26), type := 29, pos := "variable.go:98", after := #[{ on := 0, ground := Go.Ground.data }], guard := none }) rfl (fun K hK => ?_) AllReadyH.nil
            rw [if_pos (by rfl)]
            go_simp
            refine hK.out _ _ hHeld (fun hHeld => ?_)
            clear hK K
            try simp only [Act.put, List.setIfInBounds_toArray, List.set_cons_zero, List.set_cons_succ]
            refine wpAnyH_ready (rs := [7]) (by kernel_rfl) (by simp) ?_
            refine AllReadyH.cons (o := { dst := some 33, op := Go.Op.call { callee := Go.Callee.builtin Go.Builtin.append, args := #[Go.Operand.tmp 27, Go.Operand.tmp 32], argTypes := #[29, 29] }, type := 29, pos := "variable.go:98", after := #[{ on := 1, ground := Go.Ground.data }, { on := 6, ground := Go.Ground.data }, { on := 5, ground := Go.Ground.chain }], guard := none }) rfl (fun K hK => ?_) AllReadyH.nil
            rw [if_pos (by rfl)]
            obtain ⟨cs, r1, r2, r3⟩ := kown_push hol'.out (hK'.out.below hbw3) hbm'.out (fun g _ hg => by simp at hg; exact ⟨⟨by omega, by omega⟩, fun hh => by have := (hKl.out _ hh).2; omega⟩) (show w5.heap.size ≤ w3.heap.size + 1 ∧ w3.heap.size + 1 ≠ g7 by omega)
            unfold bcells at r1 r2 r3
            have r3' := Lib.hid r3
            clear r3
            refine wp_append_row (v := .slice A8 j c8) (x := .slice (some ⟨w3.heap.size, 0, none⟩) 1 1) (.agg #[.string ⟨#[]⟩, .int .i64 0, .int .i64 0, .int .i64 0, .string ⟨#[]⟩, .slice none 0 0, .slice none 0 0]) 104 Tryz.infoBound rfl (by decide) _ _ 29 rfl Tryz.underlying29 rfl rfl r1 (own_one (e := 38) (sz := 7) (B := 0) w3 #[.string ⟨b.nm.toArray⟩, .int .i64 b.dp, .int .i64 b.d.k, .int .i64 b.d.n, .string ⟨b.d.s.toArray⟩, .slice I3 b.d.is.len i3, .slice K3 b.ks.len k3] rfl (Nat.zero_le _)) r2 (by omega) (by omega) (by simp) ?_
            intro v9 w9 hown9 hg9 hat9
            have hR9 := Lib.hid (r3'.out v9 w9 hown9 hg9 hat9)
            have T1 := Turns.appendedS hg9
            have n8 : ∀ h, (Value.slice A8 j c8).ownBlock = some h → w5.heap.size ≤ h ∧ h ≠ g7 ∧ h < wr.heap.size := fun h hh => ⟨(hKl.out h hh).1.1, (hKl.out h hh).1.2, (hKl.out h hh).2⟩
            have n9 : vb < w5.heap.size := V5.lt
            have hK5 := Lib.hid (And.intro (hHeld.1.turns T1 (fun hh => by have := n8 _ hh; omega)) (hHeld.2.turns T1 (fun hh => by have := n8 _ hh; omega)))
            obtain ⟨A9, c9, rfl⟩ : ∃ A9 c9, v9 = .slice A9 (j + 1) c9 := by obtain ⟨A9, c9, e, _⟩ := own_read hown9; exact ⟨A9, c9, e⟩
            have L9 := Lib.hid (((hL7.below hbw3 hL7.lt).alloc (.cells #[.string ⟨b.nm.toArray⟩, .int .i64 b.dp, .int .i64 b.d.k, .int .i64 b.d.n, .string ⟨b.d.s.toArray⟩, .slice I3 b.d.is.len i3, .slice K3 b.ks.len k3] 38)).turns T1 (fun hh => (n8 _ hh).2.1 rfl))
            have z9 : w9.cell? ⟨g7, 6, none⟩ = some (.slice A8 j c8) := L9.out.cell 6
            have f9 : w9.frozen? ⟨g7, 6, none⟩ = false := L9.out.free 6
            have hb9 := Lib.hid (show Below w5.heap.size w5 w9 from (((Turns.of_below (hb.trans (hbw3.mono hb.size)) (fun _ => False)).alloc _).then T1 (fun k hk hh => by have := n8 _ hh; omega)).below (Nat.le_refl _) (fun _ h => h.elim))
            clear hown9 hg9 hat9 T1 hHeld r1 r2 r3' n8
            refine hK.out _ _ hK5.out (fun hHeld => ?_)
            clear hK K
            try simp only [Act.put, List.setIfInBounds_toArray, List.set_cons_zero, List.set_cons_succ]
            refine wpAnyH_take (i := 8) (oi := { dst := some 34, op := Go.Op.fieldAddr 38 (Go.Operand.tmp 7) 3, type := 0, pos := "variable.go:98", after := #[{ on := 0, ground := Go.Ground.phase }, { on := 1, ground := Go.Ground.phase }, { on := 2, ground := Go.Ground.phase }, { on := 3, ground := Go.Ground.phase }, { on := 4, ground := Go.Ground.phase }, { on := 5, ground := Go.Ground.phase }, { on := 6, ground := Go.Ground.phase }, { on := 7, ground := Go.Ground.phase }], guard := none }) (v := ?_) rfl (by kernel_rfl) (by kernel_rfl) (by kernel_rfl) (fun _ _ _ h => h) (Or.inl ⟨by rfl, ?_⟩) (by assumption) ?_
            rotate_left
            · intro w hSw; clear hSw; go_simp; try with_reducible rfl
            try simp only [Act.put, List.setIfInBounds_toArray, List.set_cons_zero, List.set_cons_succ]
            refine wpAnyH_ready (rs := [9]) (by kernel_rfl) (by simp) ?_
            refine AllReadyH.cons (o := { dst := none, op := Go.Op.store 29 (Go.Operand.tmp 34) (Go.Operand.tmp 33), type := 0, pos := "variable.go:98", after := #[{ on := 8, ground := Go.Ground.data }, { on := 7, ground := Go.Ground.data }, { on := 7, ground := Go.Ground.chain }, { on := 0, ground := Go.Ground.phase }, { on := 1, ground := Go.Ground.phase }, { on := 2, ground := Go.Ground.phase }, { on := 3, ground := Go.Ground.phase }, { on := 4, ground := Go.Ground.phase }, { on := 5, ground := Go.Ground.phase }, { on := 6, ground := Go.Ground.phase }, { on := 7, ground := Go.Ground.phase }], guard := none }) rfl (fun K hK => ?_) AllReadyH.nil
            rw [if_pos (by rfl)]
            go_simp
            have hK6 := Lib.hid (And.intro (hHeld.1.far (p := ⟨g7, 6, none⟩) (by show ¬ vb = g7; omega) (.slice A9 (j + 1) c9)) (hHeld.2.far (p := ⟨g7, 6, none⟩) (by show ¬ wr.heap.size = g7; omega) (.slice A9 (j + 1) c9)))
            clear hHeld
            refine hK.out _ _ hK6.out (fun hHeld => ?_)
            clear hK K
            try simp only [Act.put, List.setIfInBounds_toArray, List.set_cons_zero, List.set_cons_succ]
            refine wpAnyH_done (by kernel_rfl) ?_ _
            go_wp2_with fail
            go_roundw
            case rel => exact ⟨j + 1, A9, c9, out.snoc b, by omega, by go_num, by rw [Bl.len_snoc]; have := hol'.out; omega, Lib.hid ⟨r', hnew.out⟩, hR9.out.turns ((Turns.refl (fun k => k = g7) w9).setCell (p := ⟨g7, 6, none⟩) (fun _ => rfl) _) (fun g _ hs hh => hs.2 hh), L9.out.stored 6 _, hb9.out.setCell (p := ⟨g7, 6, none⟩) hgb _⟩
            case measure => simp [intOf]; omega
      · obtain rfl : j = N := by omega
        obtain ⟨rest, hr1, hr2⟩ := hre.out
        have h0 := kids_done (by rw [hN'.out]; exact Nat.le_refl _) hr1
        rw [h0, Bl.app_nil] at hr2
        rw [hr2] at hK
        have M9 := M2.below hb M2.lt
        have x0 := M9.cell 0
        have x1 := M9.cell 1
        have x2 := M9.cell 2
        have x3 := M9.cell 3
        have x4 := M9.cell 4
        have x5 := M9.cell 5
        have x6 := M9.cell 6
        have xf := M9.free
        have z0 := hL7.cell 0
        have z1 := hL7.cell 1
        have z2 := hL7.cell 2
        have z3 := hL7.cell 3
        have z4 := hL7.cell 4
        have z5 := hL7.cell 5
        simp only [List.getElem?_cons_succ, List.getElem?_cons_zero] at x0 x1 x2 x3 x4 x5 x6 z0 z1 z2 z3 z4 z5
        have hln : ks.len = j := by rw [← hr2]; exact hol
        have hK2 := Lib.hid hK
        clear hr1 hr2 h0 hre hK
        go_wp2_with fail
        have hF := seven_lies M9 (.string ⟨nm.toArray⟩) (.int .i64 dp) (.int .i64 0) (.int .i64 0) (.string ⟨#[]⟩) (.slice none 0 0) (.slice A8 j c8)
        have r0 := hF.cell 0
        have r1 := hF.cell 1
        have r2 := hF.cell 2
        have r3 := hF.cell 3
        have r4 := hF.cell 4
        have r5 := hF.cell 5
        have r6 := hF.cell 6
        have hb10 := seven_below hbz (g := w.heap.size + 1) (by omega) (.string ⟨nm.toArray⟩) (.int .i64 dp) (.int .i64 0) (.int .i64 0) (.string ⟨#[]⟩) (.slice none 0 0) (.slice A8 j c8)
        have hk9 := hK2.out.turns (seven_one wr (w.heap.size + 1) (.string ⟨nm.toArray⟩) (.int .i64 dp) (.int .i64 0) (.int .i64 0) (.string ⟨#[]⟩) (.slice none 0 0) (.slice A8 j c8)) (fun g _ hs hh => by omega)
        unfold seven at r0 r1 r2 r3 r4 r5 r6 hb10 hk9
        simp only [List.getElem?_cons_zero, List.getElem?_cons_succ] at r0 r1 r2 r3 r4 r5 r6
        exact bodyPost_ret (v := bmv ⟨nm, dp, MM.d0, ks⟩ (.slice none 0 0) (.slice A8 j c8)) (by simp [results, Tryz.results81, go_sem, r0, r1, r2, r3, r4, r5, r6, bmv, MM.d0]) rfl ⟨_, _, rfl, ⟨DnD.nil _ _, hk9.bnd.mono (fun g _ hs => by omega)⟩, hb10⟩

end Go.Proofs.YtbomodendobnkaaGreat
